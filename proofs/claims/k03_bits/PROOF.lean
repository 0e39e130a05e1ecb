import PyProof.Rows.All
import Wide.All
import OpenK.AllK
import Wide.FinOn
import Lean
import PyProof.EqAt
import PyProof.EqKinds
import PyProof.TupleCall
import PySem.Challenge.RW_mightever_k03_bits_and_rights
set_option Elab.async false
set_option linter.all false
set_option maxRecDepth 100000
namespace L2
open PySem PySem.Spec PyProof.Rows
abbrev Key:=Sum Int Str
def keyIs:Key→Value→Bool
 | .inl k,v=>Value.isInt k v
 | .inr x,v=>Value.isStrOf x v
def keyH (w:World):Key→Int
 | .inl k=>hashInt k
 | .inr x=>hashStr w x
theorem keyIs_shape:∀ {k:Key} {v:Value},keyIs k v=true→(∃ i t,k=Sum.inl i∧v=Value.int i t)∨(∃ x t,k=Sum.inr x∧v=Value.str x t)
 | .inl i,v,h=>by
  obtain ⟨t,e⟩:=Value.isInt_shape (k:=i) (v:=v) h
  exact .inl ⟨i,t,rfl,e⟩
 | .inr x,v,h=>by
  obtain ⟨t,e⟩:=Value.isStrOf_shape (x:=x) (v:=v) h
  exact .inr ⟨x,t,rfl,e⟩
theorem keyIs_int (i:Int) (t:Tok):keyIs (.inl i) (.int i t)=true:=by simp [keyIs,Value.isInt]
theorem keyIs_str (x:Str) (t:Tok):keyIs (.inr x) (.str x t)=true:=by simp [keyIs,Value.isStrOf]
theorem key_ll (a b:Int):decide ((Sum.inl a:Key)=Sum.inl b)=(a==b):=by
 by_cases e:a=b
 ·subst e; simp
 ·have h:¬ (Sum.inl a:Key)=Sum.inl b:=fun q=>e (Sum.inl.inj q)
  rw [decide_eq_false h]
  exact (beq_eq_false_iff_ne.mpr e).symm
theorem key_rr (a b:Str):decide ((Sum.inr a:Key)=Sum.inr b)=decide (a=b):=by
 by_cases e:a=b
 ·subst e; simp
 ·have h:¬ (Sum.inr a:Key)=Sum.inr b:=fun q=>e (Sum.inr.inj q)
  rw [decide_eq_false h,decide_eq_false e]
theorem key_lr (a:Int) (b:Str):decide ((Sum.inl a:Key)=Sum.inr b)=false:=decide_eq_false (fun q=>nomatch q)
theorem key_rl (a:Str) (b:Int):decide ((Sum.inr a:Key)=Sum.inl b)=false:=decide_eq_false (fun q=>nomatch q)
def mixKind (prog:Program) (w:World):PySem.KeyKind prog w Key where
 is:=keyIs
 hash:=keyH w
 inj:=fun v a b ha hb=>by
  rcases keyIs_shape ha with ⟨i,t,rfl,rfl⟩ | ⟨x,t,rfl,rfl⟩
  ·rcases keyIs_shape hb with ⟨j,u,rfl,e⟩ | ⟨y,u,rfl,e⟩
   ·injection e with e1 _; rw [e1]
   ·exact nomatch e
  ·rcases keyIs_shape hb with ⟨j,u,rfl,e⟩ | ⟨y,u,rfl,e⟩
   ·exact nomatch e
   ·injection e with e1 _; rw [e1]
 byValue:=fun k v h=>by
  rcases keyIs_shape h with ⟨i,t,rfl,rfl⟩ | ⟨x,t,rfl,rfl⟩ <;> rfl
 pyHash:=fun hv h=>by
  rcases keyIs_shape hv with ⟨i,t,rfl,rfl⟩ | ⟨x,t,rfl,rfl⟩
  ·exact wpAny_pyHash_int h
  ·exact wpAny_pyHash_str h
 eqBool:=fun hu hv h=>by
  rcases keyIs_shape hu with ⟨i,t,rfl,rfl⟩ | ⟨x,t,rfl,rfl⟩
  ·rcases keyIs_shape hv with ⟨j,u,rfl,rfl⟩ | ⟨y,u,rfl,rfl⟩
   ·rw [key_ll] at h; exact wpAny_eqBool_int h
   ·rw [key_lr] at h; exact SeqAt.EqAt.int_str i t y u _ _ _ _ h
  ·rcases keyIs_shape hv with ⟨j,u,rfl,rfl⟩ | ⟨y,u,rfl,rfl⟩
   ·rw [key_rl] at h; exact SeqAt.EqAt.str_int x t j u _ _ _ _ h
   ·rw [key_rr] at h; exact wpAny_eqBool_str h
 «strs»:=fun k x t v h=>by
  rcases keyIs_shape h with ⟨i,u,rfl,e⟩ | ⟨y,u,rfl,e⟩
  ·exact nomatch e
  ·injection e with e1 _
   subst e1
   cases v <;> rfl
theorem mixKind_int (prog:Program) (w:World) (i:Int) (t:Tok):(mixKind prog w).is (.inl i) (.int i t)=true:=keyIs_int i t
theorem mixKind_str (prog:Program) (w:World) (x:Str) (t:Tok):(mixKind prog w).is (.inr x) (.str x t)=true:=keyIs_str x t
end L2
namespace L2
open PySem PySem.Spec PyProof.Rows
inductive V where
 | non | bl (b:Bool) | int (i:Int) | str (x:Str) | byt (b:Array UInt8) | flt (b:UInt64) | ref (a:Addr) | ty (n:String)
 deriving DecidableEq
def RelV:V→Value→Prop
 | .non,u=>u=Value.none
 | .bl b,u=>u=Value.bool b
 | .int i,u=>∃ t,u=Value.int i t
 | .str x,u=>∃ t,u=Value.str x t
 | .byt b,u=>∃ t,u=Value.bytes b t
 | .flt b,u=>∃ t,u=Value.float b t
 | .ref a,u=>u=Value.ref a
 | .ty n,u=>u=Value.type n
abbrev Vals:List V→List Value→Prop:=Paired RelV
theorem Vals.length {xs:List V} {us:List Value} (r:Vals xs us):xs.length=us.length:=Paired.length r
theorem Vals.get:∀ {xs:List V} {us:List Value} {i:Nat} {x:V},Vals xs us→xs[i]? = some x→∃ u,us[i]? = some u∧RelV x u
 | _,_,_,_,.nil,e=>by simp at e
 | _,_,0,_,.cons r _,e=>by simp at e; subst e; exact ⟨_,rfl,r⟩
 | _,_,i+1,x,.cons _ t,e=>by
  obtain ⟨u,h1,h2⟩:=Vals.get (i:=i) (x:=x) t (by simpa using e)
  exact ⟨u,by simpa using h1,h2⟩
theorem Vals.set {x:V} {u:Value} (r:RelV x u):∀ {xs:List V} {us:List Value} (i:Nat),Vals xs us→Vals (xs.set i x) (us.set i u)
 | _,_,_,.nil=>.nil
 | _,_,0,.cons _ t=>.cons r t
 | _,_,i+1,.cons q t=>.cons q (Vals.set r i t)
theorem Vals.append:∀ {xs ys:List V} {us ws:List Value},Vals xs us→Vals ys ws→Vals (xs++ys) (us++ws)
 | _,_,_,_,.nil,s=>s
 | _,_,_,_,.cons r t,s=>.cons r (Vals.append t s)
theorem Vals.take:∀ {xs:List V} {us:List Value} (n:Nat),Vals xs us→Vals (xs.take n) (us.take n)
 | _,_,0,_=>.nil
 | _,_,_+1,.nil=>.nil
 | _,_,n+1,.cons r t=>.cons r (Vals.take n t)
theorem Vals.drop:∀ {xs:List V} {us:List Value} (n:Nat),Vals xs us→Vals (xs.drop n) (us.drop n)
 | _,_,0,r=>r
 | _,_,_+1,.nil=>.nil
 | _,_,n+1,.cons _ t=>Vals.drop n t
def RelO:Option V→Option Value→Prop
 | some v,some u=>RelV v u
 | none,none=>True
 | _,_=>False
def KV {κ:Type}:List (κ×V)→List (κ×Value)→Prop:=Paired fun (p:κ×V) (q:κ×Value)=>p.1=q.1∧RelV p.2 q.2
def kV:Key→V
 | .inl i=>.int i
 | .inr x=>.str x
inductive HO where
 /-- a list -/
 | lst (xs:List V)
 /-- a tuple (never changes) -/
 | tup (xs:List V)
 /-- a dict whose keys are ints and texts; one whose keys are tuples of ints and texts (the empty one is both) -/
 | dK (kvs:List (Key×V)) | dT (kvs:List (List Key×V))
 /-- a set of ints: its members,its size -/
 | set (S:Int→Bool) (n:Nat)
 /-- an instance of the class at C,its dict at dx,its attributes -/
 | ins (C dx:Addr) (fs:List (Str×V))
 /-- the dict of the instance at x -/
 | own (x:Addr)
 /-- the dict of an exception -/
 | xd (fs:List (Str×V))
 /-- a bound method,f of x -/
 | met (f x:Addr)
 /-- a range object lo,lo+1,.. below hi -/
 | rng (lo hi:Int)
 /-- a thing that is known to the object (the script; a dict while a loop walks it): read,never written while it is so -/
 | frz (o:Obj) (u:HO)
 /-- a code object's table -/
 | tbl (ps:Array Value)
 /-- any other thing,by what is true of its one object (a def of one's own: SetO a S n:=HO.ext fun h=>..) -/
 | ext (φ:Heap→Prop)
abbrev Hp:=Addr→Option HO
def upd (H:Hp) (a:Addr) (o:HO):Hp:=fun b=>if b=a then some o else H b
theorem upd_same {H:Hp} {a:Addr} {o:HO}:upd H a o a=some o:=by unfold upd; rw [if_pos rfl]
theorem upd_ne {H:Hp} {a b:Addr} {o:HO} (h:b≠a):upd H a o b=H b:=by unfold upd; rw [if_neg h]
theorem ne_of {H:Hp} {a b:Addr} {o u:HO} (h:H a=some o) (h':H b=some u) (d:o≠u):a≠b:=by
 intro e; subst e; rw [h] at h'; exact d (Option.some.inj h')
theorem ne_of_none {H:Hp} {a b:Addr} {o:HO} (h:H a=some o) (h':H b=none):a≠b:=by
 intro e; subst e; rw [h] at h'; cases h'
section
variable (P:Program) (w:World)
def ObjOk (H:Hp) (h:Heap) (a:Addr):HO→Prop
 | .lst xs=>xs.length≤sizeLine∧∃ (its:List Value) (n:Nat),Vals xs its∧h.get? a=some { cls:=.type "list",data:=.seq its.toArray n }
 | .tup xs=>xs.length≤sizeLine∧∃ its:List Value,Vals xs its∧IsTup h a its.toArray
 | .dK kvs=>kvs.length≤sizeLine∧(a==sysModules)=false∧∃ vs,KV kvs vs∧h.DictOf (mixKind P w) a vs
 | .dT kvs=>kvs.length≤sizeLine∧(a==sysModules)=false∧∃ xs:List (List Key×Addr×Value),
   Paired (fun (p:List Key×V) (q:List Key×Addr×Value)=>p.1=q.1∧H q.2.1=some (.tup (p.1.map kV))∧RelV p.2 q.2.2) kvs xs∧
   ∃ o es ep,h.get? a=some o∧o.ExactDict∧o.data=.dict es ep∧es.toList=xs.map (entryOfKey (tupleKind (mixKind P w)))∧(xs.map (·.1)).Nodup
 | .set S n=>h.SetOf (intKind P w) a S n
 | .ins C dx fs=>H dx=some (.own a)∧fs.length≤1000∧dx≠a∧h.get? a=some (W.instObj C dx)∧
   ∃ mA,h.Ns1 dx mA∧(∀ f,RelO (fs.lookup f) (mA f))∧PySem.Within mA (fs.map (·.1))
 | .own _=>∃ o,h.get? a=some o
 | .xd fs=>∃ mA,h.Ns1 a mA∧∀ f,RelO (fs.lookup f) (mA f)
 | .rng lo hi=>∃ t u v,h.get? a=some { cls:=.type "range",data:=.fields #[.int lo t,.int hi u,.int 1 v] }
 | .frz o u=>h.get? a=some o∧ObjOk H h a u
 | .tbl ps=>h.get? a=some { cls:=.none,data:=.fields ps }
 | .met f x=>h.get? a=some (W.methodObj (.ref f) (.ref x))
 | .ext φ=>φ h∧(∃ o,h.get? a=some o)∧∀ h1 h2:Heap,φ h1→(∀ o,h1.get? a=some o→h2.get? a=some o)→φ h2
def HOk (H:Hp) (h:Heap):Prop:=∀ a o,H a=some o→ObjOk P w H h a o
end
section
variable {P:Program} {w:World} {H H':Hp} {h h':Heap} {a:Addr} {o:HO}
theorem ObjOk.lt (x:ObjOk P w H h a o):a < h.objs.size:=by
 cases o with
 | lst xs=>obtain ⟨_,_,_,_,e⟩:=x; exact Heap.lt_size e
 | tup xs=>obtain ⟨_,_,_,p⟩:=x; exact p.lt
 | dK kvs=>obtain ⟨_,_,_,_,o,_,_,e,_⟩:=x; exact Heap.lt_size e
 | dT kvs=>obtain ⟨_,_,_,_,o,_,_,e,_⟩:=x; exact Heap.lt_size e
 | set S n=>obtain ⟨o,_,_,_,e,_⟩:=x; exact Heap.lt_size e
 | ins C dx fs=>obtain ⟨_,_,_,e,_⟩:=x; exact Heap.lt_size e
 | own y=>obtain ⟨_,e⟩:=x; exact Heap.lt_size e
 | xd fs=>obtain ⟨_,⟨_,_,_,e,_⟩,_⟩:=x; exact Heap.lt_size e
 | rng lo hi=>obtain ⟨_,_,_,e⟩:=x; exact Heap.lt_size e
 | frz ob u=>obtain ⟨e,_⟩:=x; exact Heap.lt_size e
 | tbl ps=>exact Heap.lt_size (show h.get? a=some _ from x)
 | met f y=>exact Heap.lt_size (show h.get? a=some _ from x)
 | ext φ=>obtain ⟨_,⟨_,e⟩,_⟩:=x; exact Heap.lt_size e
theorem Paired.mapP {α β:Type} {F G:α→β→Prop}:∀ {l₁:List α} {l₂:List β},Paired F l₁ l₂→(∀ a b,F a b→G a b)→Paired G l₁ l₂
 | _,_,.nil,_=>.nil
 | _,_,.cons r t,f=>.cons (f _ _ r) (Paired.mapP t f)
theorem ObjOk.stay (x:ObjOk P w H h a o) (k:∀ b u,(b=a∨H b=some (.own a))→h.get? b=some u→h'.get? b=some u)
  (ho:∀ b,H b=some (.own a)→H' b=some (.own a)) (ht:∀ b xs,H b=some (.tup xs)→H' b=some (.tup xs)):ObjOk P w H' h' a o:=by
 induction o with
 | lst xs=>obtain ⟨z,its,n,r,e⟩:=x; exact ⟨z,its,n,r,k _ _ (.inl rfl) e⟩
 | tup xs=>obtain ⟨z,its,r,ob,e,c⟩:=x; exact ⟨z,its,r,ob,k _ _ (.inl rfl) e,c⟩
 | dK kvs=>obtain ⟨z,y,vs,r,ob,es,ep,e,c⟩:=x; exact ⟨z,y,vs,r,ob,es,ep,k _ _ (.inl rfl) e,c⟩
 | dT kvs=>
  obtain ⟨z,y,xs,r,ob,es,ep,e,c⟩:=x
  exact ⟨z,y,xs,Paired.mapP r fun p q z=>⟨z.1,ht _ _ z.2.1,z.2.2⟩,ob,es,ep,k _ _ (.inl rfl) e,c⟩
 | set S n=>obtain ⟨ob,es,ep,t,e,c⟩:=x; exact ⟨ob,es,ep,t,k _ _ (.inl rfl) e,c⟩
 | ins C dx fs=>
  obtain ⟨d,z,ne,e,mA,⟨od,es,ep,e2,c⟩,r⟩:=x
  exact ⟨ho _ d,z,ne,k _ _ (.inl rfl) e,mA,⟨od,es,ep,k _ _ (.inr d) e2,c⟩,r⟩
 | own y=>obtain ⟨ob,e⟩:=x; exact ⟨ob,k _ _ (.inl rfl) e⟩
 | xd fs=>obtain ⟨mA,⟨od,es,ep,e,c⟩,r⟩:=x; exact ⟨mA,⟨od,es,ep,k _ _ (.inl rfl) e,c⟩,r⟩
 | rng lo hi=>obtain ⟨t,u,v,e⟩:=x; exact ⟨t,u,v,k _ _ (.inl rfl) e⟩
 | frz ob u ih=>obtain ⟨e,q⟩:=x; exact ⟨k _ _ (.inl rfl) e,ih q⟩
 | tbl ps=>
  have e:h.get? a=some { cls:=.none,data:=.fields ps }:=x
  show h'.get? a=some { cls:=.none,data:=.fields ps }
  exact k a _ (.inl rfl) e
 | met f y=>
  have e:h.get? a=some (W.methodObj (.ref f) (.ref y)):=x
  show h'.get? a=some (W.methodObj (.ref f) (.ref y))
  exact k a _ (.inl rfl) e
 | ext φ=>obtain ⟨p,⟨o,e⟩,st⟩:=x; exact ⟨st _ _ p fun o q=>k _ _ (.inl rfl) q,⟨o,k _ _ (.inl rfl) e⟩,st⟩
theorem HOk.lt (x:HOk P w H h) (e:H a=some o):a < h.objs.size:=(x a o e).lt
theorem HOk.fresh (x:HOk P w H h) (e:h.objs.size≤a):H a=none:=by
 cases q:H a with
 | none=>rfl
 | some u=>exact absurd (Nat.lt_of_lt_of_le (x.lt q) e) (Nat.lt_irrefl _)
theorem HOk.kept (x:HOk P w H h) (k:∀ b u,h.get? b=some u→h'.get? b=some u):HOk P w H h':=fun a o e=>
 (x a o e).stay (fun b u _ q=>k b u q) (fun _ q=>q) fun _ _ q=>q
theorem HOk.laid (x:HOk P w H h) (k:∀ b u,h.get? b=some u→h'.get? b=some u) (hp:h.objs.size≤a) (new:ObjOk P w (upd H a o) h' a o):HOk P w (upd H a o) h':=fun b u e=>by
 have hn:=x.fresh hp
 by_cases hb:b=a
 ·subst hb; rw [upd_same] at e; cases e; exact new
 ·rw [upd_ne hb] at e
  exact (x b u e).stay (fun c v _ q=>k c v q) (fun c q=>by rw [upd_ne (ne_of_none q hn)]; exact q) fun c xs q=>by rw [upd_ne (ne_of_none q hn)]; exact q
end
def Rd (H:Hp) (a:Addr) (u:HO):Prop:=H a=some u∨∃ o,H a=some (.frz o u)
theorem Rd.ok {P:Program} {w:World} {H:Hp} {h:Heap} {a:Addr} {u:HO} (r:Rd H a u) (x:HOk P w H h):ObjOk P w H h a u:=by
 rcases r with r | ⟨o,r⟩
 ·exact x a u r
 ·obtain ⟨_,q⟩:=x a _ r
  exact q
def Mut:Option HO→Prop
 | some (.lst _)=>True
 | some (.dK _)=>True
 | some (.dT _)=>True
 | some (.set _ _)=>True
 | some (.ins _ _ _)=>True
 | some (.ext _)=>True
 | _=>False
section
variable {P:Program} {w:World} {H:Hp} {h h':Heap} {x e:Addr} {o':HO}
theorem HOk.write (ok:HOk P w H h) (mu:Mut (H x)) (he:e=x∨H e=some (.own x)) (k:∀ b u,b≠e→h.get? b=some u→h'.get? b=some u) (heo:∃ u,h'.get? e=some u)
  (new:ObjOk P w (upd H x o') h' x o'):HOk P w (upd H x o') h':=fun b u q=>by
 have nown:∀ c y,H c=some (.own y)→c≠x:=fun c y r z=>by subst z; rw [r] at mu; exact mu
 have ntup:∀ c xs,H c=some (.tup xs)→c≠x:=fun c xs r z=>by subst z; rw [r] at mu; exact mu
 by_cases hb:b=x
 ·subst hb; rw [upd_same] at q; cases q; exact new
 ·rw [upd_ne hb] at q
  by_cases hbe:b=e
  ·have q':H b=some (.own x):=by
    rcases he with z | z
    ·exact absurd (hbe.trans z) hb
    ·rw [hbe]; exact z
   rw [q] at q'; cases q'
   obtain ⟨v,hv⟩:=heo
   exact ⟨v,by rw [hbe]; exact hv⟩
  ·refine (ok b u q).stay (fun c v hc r=>k c v ?_ r) (fun c r=>by rw [upd_ne (nown c b r)]; exact r) fun c xs r=>by rw [upd_ne (ntup c xs r)]; exact r
   rcases hc with rfl | hc
   ·exact hbe
   ·rintro rfl
    rcases he with z | z
    ·exact nown c b hc z
    ·rw [hc] at z; cases z; exact hb rfl
end
structure Un (fs ex:List Addr) (H H':Hp) (h h':Heap):Prop where
 keep:∀ b o,h.get? b=some o→H b=none→b∉fs→b∉ex→h'.get? b=some o
 slot:∀ b o,h.get? b=some o→H b=none→b∈fs→b∉ex→∃ sl,h'.get? b=some { o with slots:=sl }
 free:∀ b o,h.get? b=some o→H b=none→b∉ex→H' b=none
 there:∀ b o,h.get? b=some o→b∉ex→∃ o',h'.get? b=some o'
 tups:∀ b xs,H b=some (.tup xs)→H' b=some (.tup xs)
 frzs:∀ b o u,H b=some (.frz o u)→H' b=some (.frz o u)
 tbls:∀ b ps,H b=some (.tbl ps)→∃ more,H' b=some (.tbl (ps++more))
section
variable {fs fs' ex ex':List Addr} {H H1 H2:Hp} {h h1 h2 h':Heap} {a x e:Addr} {o:HO}
theorem Un.any (u:Un fs ex H H1 h h1) {b:Addr} {ob:Obj} (q:h.get? b=some ob) (n:H b=none) (hx:b∉ex):∃ sl,h1.get? b=some { ob with slots:=sl }:=by
 by_cases hb:b∈fs
 ·exact u.slot b ob q n hb hx
 ·exact ⟨ob.slots,u.keep b ob q n hb hx⟩
theorem Un.kept (k:∀ b u,h.get? b=some u→h'.get? b=some u):Un fs ex H H h h':=
 ⟨fun b ob q _ _ _=>k b ob q,fun b ob q _ _ _=>⟨ob.slots,k b ob q⟩,fun _ _ _ n _=>n,fun b ob q _=>⟨ob,k b ob q⟩,fun _ _ q=>q,fun _ _ _ q=>q,fun _ ps q=>⟨#[],by rw [q]; simp⟩⟩
theorem Un.refl:Un fs ex H H h h:=Un.kept fun _ _ q=>q
theorem Un.laid (k:∀ b u,h.get? b=some u→h'.get? b=some u) (hp:h.objs.size≤a) (hn:H a=none):Un fs ex H (upd H a o) h h' where
 keep:=fun b u q _ _ _=>k b u q
 slot:=fun b u q _ _ _=>⟨u.slots,k b u q⟩
 free:=fun b u q n _=>by rw [upd_ne (Nat.ne_of_lt (Nat.lt_of_lt_of_le (Heap.lt_size q) hp))]; exact n
 there:=fun b u q _=>⟨u,k b u q⟩
 tups:=fun b xs q=>by rw [upd_ne (ne_of_none q hn)]; exact q
 frzs:=fun b u xs q=>by rw [upd_ne (ne_of_none q hn)]; exact q
 tbls:=fun b ps q=>⟨#[],by rw [upd_ne (ne_of_none q hn),q]; simp⟩
theorem Un.write (mu:Mut (H x)) (he:e=x∨H e=some (.own x)) (k:∀ b u,b≠e→h.get? b=some u→h'.get? b=some u) (heo:∃ u,h'.get? e=some u):Un fs ex H (upd H x o) h h':=by
 have hx:∀ b,H b=none→b≠x:=fun b n z=>by subst z; rw [n] at mu; exact mu
 have hb:∀ b,H b=none→b≠e:=fun b n z=>by
  subst z
  rcases he with r | r
  ·exact hx b n r
  ·rw [n] at r; cases r
 have hm:∀ b u,H b=some u→¬ Mut (some u)→b≠x:=fun b u q nm z=>by subst z; rw [q] at mu; exact nm mu
 refine ⟨fun b u q n _ _=>k b u (hb b n) q,fun b u q n _ _=>⟨u.slots,k b u (hb b n) q⟩,fun b u q n _=>by rw [upd_ne (hx b n)]; exact n,fun b u q _=>?_,
  fun b xs q=>by rw [upd_ne (hm b _ q fun z=>z)]; exact q,fun b u xs q=>by rw [upd_ne (hm b _ q fun z=>z)]; exact q,fun b ps q=>⟨#[],by rw [upd_ne (hm b _ q fun z=>z),q]; simp⟩⟩
 by_cases hbe:b=e
 ·subst hbe; exact heo
 ·exact ⟨u,k b u hbe q⟩
end
def trk (h:Heap) (H:Hp):List Addr:=(List.range h.objs.size).filter fun a=>(H a).isSome
def hidT (h:Heap) (H:Hp):Heap:=W.hideAll h (trk h H)
theorem hidT_size (h:Heap) (H:Hp):(hidT h H).objs.size=h.objs.size:=W.hideAll_size _ _
theorem hidT_get {h:Heap} {H:Hp} {b:Addr} {o:Obj} (e:h.get? b=some o) (n:H b=none):(hidT h H).get? b=some o:=
 W.hideAll_get _ e fun hm=>by
  have q:(H b).isSome=true:=(List.mem_filter.mp hm).2
  rw [n] at q; simp at q
theorem of_hidT {h:Heap} {H:Hp} {b:Addr} {o:Obj} (e:(hidT h H).get? b=some o):h.get? b=some o∧H b=none:=by
 have e':h.get? b=some o:=W.of_hideAll (trk h H) e
 refine ⟨e',?_⟩
 cases q:H b with
 | none=>rfl
 | some x=>
  have hm:b∈trk h H:=List.mem_filter.mpr ⟨List.mem_range.mpr (Heap.lt_size e'),by simp [q]⟩
  have z:(hidT h H).get? b=none:=W.hideAll_none (trk h H) hm
  rw [z] at e; cases e
def allNews (g h:Heap) (L:Addr):List (Addr×Obj):=(List.range h.objs.size).filterMap fun a=>if a=L∨(g.get? a).isSome=true then none else (h.get? a).map fun o=>(a,o)
def rest (g h:Heap) (L d:Addr):List (Addr×Obj):=(allNews g h L).filter fun p=>decide (p.1≠d)
end L2
namespace L2
open PySem PySem.Spec PyProof.Rows
structure Mod (K:W.Frag) (mg:Str→Option Value) (base:Heap):Prop where
 kin:K.In base
 glob:base.Ns mainGlobals mg
 blt:∃ mb,base.Ns builtinsNs mb∧∀ x:Str,x≠"__name__"→mb x=bootBuiltins x
 nolimit:base.NoLimit
structure Cx where
 prog:Program
 w:World
 K:W.Frag
 mg:Str→Option Value
 base:Heap
 A:Around
 N:List Str
 s₀:Shared
 H₀:Hp
 env:Env
 outer:List Env
 stack:List Env
 ex:List Addr
 fn:Str→Bool
 calm:Bool
 pn:List (Addr×Obj)
 xe:Value→Shared→Prop
def frs (l:List Env):List Addr:=l.filterMap (·.frame)
abbrev Cx.fs (X:Cx):List Addr:=frs X.outer
def Vis (sc:Scope) (x:Str):Prop:=sc.names.lookup x=some .local∨sc.names.lookup x=some .cell∨sc.names.lookup x=some .free
def Loc (sc:Scope) (x:Str):Prop:=sc.names.lookup x=some .local∨sc.names.lookup x=some .cell
def Look (env:Env) (h:Heap) (m:Str→Option Value) (x:Str) (u:Value):Prop:=
 (env.kindOf x=some .local∧m x=some u)∨((env.kindOf x=some .cell∨env.kindOf x=some .free)∧∃ c,env.cells.lookup x=some c∧h.IsCell c (some u))
structure Cx.Ok (X:Cx):Prop where
 mod:Mod X.K X.mg X.base
 kind:X.env.scope.kind=.function
 glob:X.env.globals=mainGlobals
 blt:X.env.builtins=builtinsNs
 above:X.s₀.heap.objs.size≤X.env.locals
 inj:∀ x y c,X.env.cells.lookup x=some c→X.env.cells.lookup y=some c→x=y
 has:∀ x,(X.env.kindOf x=some .cell∨X.env.kindOf x=some .free)→∃ c,X.env.cells.lookup x=some c
 cab:∀ x c,X.fn x=true→X.env.cells.lookup x=some c→X.s₀.heap.objs.size≤c
 hd:X.calm=true→X.A.handled=none
 frames:X.A.frames=some X.stack
 stk:X.stack=X.outer∨(X.stack=X.env :: X.outer∧X.env.frame=some X.env.locals)
 exf:∀ b∈X.ex,b≠X.env.locals∧∀ x c,X.env.cells.lookup x=some c→c≠b
 bs:∀ b o,X.base.get? b=some o→X.s₀.heap.get? b=some o∧X.H₀ b=none
 bsz:X.base.objs.size≤X.s₀.heap.objs.size
 noex:∀ b o,X.base.get? b=some o→b∉X.ex
 exfs:∀ b∈X.ex,b∉X.fs
 funs:X.s₀.heap.FunFrames X.base X.outer
 frf:∀ b∈X.fs,X.H₀ b=none
structure Inv (X:Cx) (pins:List (Addr×Obj)) (σ:List (Option V)) (H:Hp) (s:Shared):Prop where
 ok:X.Ok
 os:s.os=X.s₀.os
 bare:AllBare s.gens
 base:Un X.fs X.ex X.H₀ H X.s₀.heap s.heap
 loc:∃ m,s.heap.Ns X.env.locals m∧∀ (i:Nat) (x:Str) (v:V),X.N[i]? = some x→σ[i]? = some (some v)→Vis X.env.scope x→∃ u,RelV v u∧Look X.env s.heap m x u
 cell:∀ x c,X.env.cells.lookup x=some c→∃ v,s.heap.IsCell c v
 free:H X.env.locals=none
 freeC:∀ x c,X.env.cells.lookup x=some c→H c=none
 pin:∀ p∈X.pn++pins,s.heap.get? p.1=some p.2∧H p.1=none∧p.1≠X.env.locals∧p.1∉X.fs∧∀ v,p.2.data≠.cell v
 hok:HOk X.prog X.w H s.heap
 len:σ.length=X.N.length
section
variable {X:Cx} {pins:List (Addr×Obj)} {σ:List (Option V)} {H H':Hp} {s:Shared} {h':Heap}
theorem Cx.Ok.nofr (ok:X.Ok) {b:Addr} {o:Obj} (e:X.base.get? b=some o):b∉X.fs:=fun hb=>by
 have:=(ok.funs.mem hb).1
 rw [e] at this; cases this
theorem Inv.bs (I:Inv X pins σ H s):∀ b o,X.base.get? b=some o→s.heap.get? b=some o∧H b=none:=fun b o e=>
 ⟨I.base.keep b o (I.ok.bs b o e).1 (I.ok.bs b o e).2 (I.ok.nofr e) (I.ok.noex b o e),I.base.free b o (I.ok.bs b o e).1 (I.ok.bs b o e).2 (I.ok.noex b o e)⟩
theorem Inv.bk (I:Inv X pins σ H s):∀ b o,X.base.get? b=some o→s.heap.get? b=some o:=fun b o e=>(I.bs b o e).1
theorem Inv.mod (I:Inv X pins σ H s):Mod X.K X.mg X.base:=I.ok.mod
theorem Inv.kIn (I:Inv X pins σ H s):X.K.In s.heap:=I.ok.mod.kin.keeps I.bk
theorem Inv.lt (I:Inv X pins σ H s):X.env.locals < s.heap.objs.size:=let ⟨_,hn,_⟩:=I.loc; hn.lt
theorem Inv.sz (I:Inv X pins σ H s):X.s₀.heap.objs.size≤s.heap.objs.size:=Nat.le_trans I.ok.above (Nat.le_of_lt I.lt)
theorem Inv.nofs (I:Inv X pins σ H s) {a:Addr} (h:s.heap.objs.size≤a):a∉X.fs:=fun hb=>by
 obtain ⟨_,o,ho,_⟩:=I.ok.funs.mem hb
 exact absurd (Nat.lt_of_lt_of_le (Heap.lt_size ho) (Nat.le_trans I.sz h)) (Nat.lt_irrefl _)
theorem Inv.cne (I:Inv X pins σ H s):∀ x c,X.env.cells.lookup x=some c→c≠X.env.locals:=fun x c e z=>by
 obtain ⟨v,o,ho,hd⟩:=I.cell x c e
 obtain ⟨m,⟨o',es,ep,ho',hd',_⟩,_⟩:=I.loc
 rw [z,ho'] at ho; cases ho; rw [hd'] at hd; cases hd
theorem Inv.funs (I:Inv X pins σ H s):s.heap.FunFrames X.base X.outer:=by
 have all:∀ (l:List Env),(∀ b∈frs l,b∈X.fs)→X.s₀.heap.FunFrames X.base l→s.heap.FunFrames X.base l:=by
  intro l
  induction l with
  | nil=>intro _ _; trivial
  | cons env r ih=>
   intro hs hl
   obtain ⟨hk,⟨L,o,hf,hn,ho,hd⟩,hr⟩:=hl
   have hL:L∈X.fs:=hs L (by unfold frs; rw [List.filterMap_cons,hf]; exact List.mem_cons_self)
   obtain ⟨sl,e⟩:=I.base.slot L o ho (I.ok.frf L hL) hL fun z=>I.ok.exfs L z hL
   exact ⟨hk,⟨L,_,hf,hn,e,hd⟩,ih (fun b hb=>hs b (by unfold frs; rw [List.filterMap_cons,hf]; exact List.mem_cons_of_mem _ hb)) hr⟩
 exact all X.outer (fun _ hb=>hb) I.ok.funs
theorem Inv.stack (I:Inv X pins σ H s):s.heap.FunFrames X.base X.stack:=by
 rcases I.ok.stk with e | ⟨e,hf⟩
 ·rw [e]; exact I.funs
 ·rw [e]
  obtain ⟨m,hn,_⟩:=I.loc
  refine .cons (by rw [I.ok.kind]; decide) hf hn ?_ I.funs
  exact Heap.get?_none_of_le (Nat.le_trans I.ok.bsz I.ok.above)
theorem Inv.stkSub (I:Inv X pins σ H s):∀ b∈frs X.stack,b∈X.env.locals :: X.fs:=fun b hb=>by
 rcases I.ok.stk with e | ⟨e,hf⟩
 ·rw [e] at hb; exact List.mem_cons_of_mem _ hb
 ·rw [e] at hb
  unfold frs at hb
  rw [List.filterMap_cons,hf] at hb
  exact hb
theorem Inv.stkFree (I:Inv X pins σ H s):∀ b∈frs X.stack,H b=none:=fun b hb=>by
 rcases List.mem_cons.mp (I.stkSub b hb) with e | hb
 ·rw [e]; exact I.free
 ·obtain ⟨_,o,ho,_⟩:=I.ok.funs.mem hb
  exact I.base.free b o ho (I.ok.frf b hb) fun z=>I.ok.exfs b z hb
theorem Inv.step {g':Array GenState} {t':Nat} {d':Drawn} {ch:List Addr} (I:Inv X pins σ H s)
  (hch:∀ b∈ch,(b∈X.ex∨X.s₀.heap.objs.size≤b)∧b≠X.env.locals∧(∀ x c,X.env.cells.lookup x=some c→c≠b)∧∀ p∈X.pn++pins,p.1≠b)
  (keep:∀ b o,b≠X.env.locals→b∉X.fs→b∉ch→s.heap.get? b=some o→H b=none→h'.get? b=some o)
  (slot:∀ b o,b≠X.env.locals→b∈X.fs→b∉ch→s.heap.get? b=some o→H b=none→∃ sl,h'.get? b=some { o with slots:=sl }) (free:∀ b o,b∉ch→s.heap.get? b=some o→H b=none→H' b=none)
  (there:∀ b o,b∉ch→s.heap.get? b=some o→∃ o',h'.get? b=some o')
  (tups:∀ b xs,H b=some (.tup xs)→H' b=some (.tup xs)) (frzs:∀ b o u,H b=some (.frz o u)→H' b=some (.frz o u)) (tbls:∀ b ps,H b=some (.tbl ps)→∃ more,H' b=some (.tbl (ps++more)))
  (ns:∀ m,s.heap.Ns X.env.locals m→h'.Ns X.env.locals m) (hok:HOk X.prog X.w H' h') (hg:AllBare g') :
  Inv X pins σ H' { s with heap:=h',gens:=g',drawn:=d',toks:=t' }:=by
 have neL:∀ b o,X.s₀.heap.get? b=some o→b≠X.env.locals:=fun b o e=>Nat.ne_of_lt (Nat.lt_of_lt_of_le (Heap.lt_size e) I.ok.above)
 have neC:∀ b o,X.s₀.heap.get? b=some o→b∉X.ex→b∉ch:=fun b o e hx hb=>by
  rcases (hch b hb).1 with z | z
  ·exact hx z
  ·exact absurd (Nat.lt_of_lt_of_le (Heap.lt_size e) z) (Nat.lt_irrefl _)
 have cellK:∀ x c,X.env.cells.lookup x=some c→∀ v,s.heap.IsCell c v→h'.IsCell c v:=fun x c e v ⟨o,ho,hd⟩=>by
  have nch:c∉ch:=fun z=>(hch c z).2.2.1 x c e rfl
  by_cases hc:c∈X.fs
  ·obtain ⟨sl,q⟩:=slot c o (I.cne x c e) hc nch ho (I.freeC x c e)
   exact ⟨_,q,hd⟩
  ·exact ⟨o,keep c o (I.cne x c e) hc nch ho (I.freeC x c e),hd⟩
 refine ⟨I.ok,I.os,hg,⟨fun b o e n hb hx=>?_,fun b o e n hb hx=>?_,fun b o e n hx=>?_,fun b o e hx=>?_,fun b xs e=>tups b xs (I.base.tups b xs e),fun b o xs e=>frzs b o xs (I.base.frzs b o xs e),fun b ps e=>?_⟩,?_,fun x c e=>?_,?_,fun x c e=>?_,fun p hp=>?_,hok,I.len⟩
 ·exact keep b o (neL b o e) hb (neC b o e hx) (I.base.keep b o e n hb hx) (I.base.free b o e n hx)
 ·obtain ⟨sl,e1⟩:=I.base.slot b o e n hb hx
  obtain ⟨sl',e2⟩:=slot b _ (neL b o e) hb (neC b o e hx) e1 (I.base.free b o e n hx)
  exact ⟨sl',e2⟩
 ·obtain ⟨o',e1⟩:=I.base.there b o e hx
  exact free b o' (neC b o e hx) e1 (I.base.free b o e n hx)
 ·obtain ⟨o',e1⟩:=I.base.there b o e hx
  exact there b o' (neC b o e hx) e1
 ·obtain ⟨m1,e1⟩:=I.base.tbls b ps e
  obtain ⟨m2,e2⟩:=tbls b _ e1
  exact ⟨m1++m2,by rw [e2,Array.append_assoc]⟩
 ·obtain ⟨m,hn,hl⟩:=I.loc
  refine ⟨m,ns m hn,fun i x v e1 e2 e3=>?_⟩
  obtain ⟨u,r,l⟩:=hl i x v e1 e2 e3
  refine ⟨u,r,?_⟩
  rcases l with l | ⟨k,c,e,z⟩
  ·exact .inl l
  ·exact .inr ⟨k,c,e,cellK x c e _ z⟩
 ·obtain ⟨v,z⟩:=I.cell x c e
  exact ⟨v,cellK x c e v z⟩
 ·obtain ⟨m,⟨o,_,_,ho,_⟩,_⟩:=I.loc
  exact free _ o (fun z=>(hch _ z).2.1 rfl) ho I.free
 ·obtain ⟨v,o,ho,hd⟩:=I.cell x c e
  exact free c o (fun z=>(hch c z).2.2.1 x c e rfl) ho (I.freeC x c e)
 ·obtain ⟨e,n,ne,nf,d⟩:=I.pin p hp
  have nch:p.1∉ch:=fun z=>(hch p.1 z).2.2.2 p hp rfl
  exact ⟨keep p.1 p.2 ne nf nch e n,free p.1 p.2 nch e n,ne,nf,d⟩
theorem Inv.un {t':Nat} (I:Inv X pins σ H s) (u:Un X.fs [] H H' s.heap h') (hok:HOk X.prog X.w H' h'):Inv X pins σ H' { s with heap:=h',toks:=t' }:=by
 obtain ⟨m,⟨o,es,ep,ho,r⟩,_⟩:=id I.loc
 obtain ⟨sl,hL⟩:=u.any ho I.free (by simp)
 exact I.step (g':=s.gens) (d':=s.drawn) (ch:=[]) (fun _ z=>nomatch z) (fun b o _ hb _ e n=>u.keep b o e n hb (by simp)) (fun b o _ hb _ e n=>u.slot b o e n hb (by simp)) (fun b o _ e n=>u.free b o e n (by simp)) (fun b o _ e=>u.there b o e (by simp)) u.tups u.frzs u.tbls (fun m' hm=>by
  obtain ⟨o',es',ep',ho',r'⟩:=hm
  rw [ho] at ho'; cases ho'
  exact ⟨_,es',ep',hL,r'⟩) hok I.bare
theorem Inv.call {g':Array GenState} {t':Nat} {d':Drawn} {ch:List Addr} (I:Inv X pins σ H s) (u:Un (frs X.stack) ch H H' s.heap h') (hok:HOk X.prog X.w H' h') (hg:AllBare g')
  (hch:∀ b∈ch,(b∈X.ex∨X.s₀.heap.objs.size≤b)∧b≠X.env.locals∧(∀ x c,X.env.cells.lookup x=some c→c≠b)∧∀ p∈X.pn++pins,p.1≠b) :
  Inv X pins σ H' { s with heap:=h',gens:=g',drawn:=d',toks:=t' }:=by
 obtain ⟨m,⟨o,es,ep,ho,r⟩,_⟩:=id I.loc
 obtain ⟨sl,hL⟩:=u.any ho I.free fun z=>(hch _ z).2.1 rfl
 exact I.step (ch:=ch) hch (fun b o hL hb hc e n=>u.keep b o e n (fun z=>(List.mem_cons.mp (I.stkSub b z)).elim hL hb) hc) (fun b o _ _ hc e n=>u.any e n hc) (fun b o hc e n=>u.free b o e n hc) (fun b o hc e=>u.there b o e hc) u.tups u.frzs u.tbls (fun m' hm=>by
  obtain ⟨o',es',ep',ho',r'⟩:=hm
  rw [ho] at ho'; cases ho'
  exact ⟨_,es',ep',hL,r'⟩) hok hg
theorem Inv.turned {t':Nat} {it:Addr} (I:Inv X pins σ H s) (k:∀ b o,b≠it→s.heap.get? b=some o→h'.get? b=some o) (hn:H it=none) (hL:it≠X.env.locals)
  (h1:it∈X.ex∨X.s₀.heap.objs.size≤it) (h2:∀ x c,X.env.cells.lookup x=some c→c≠it) (h3:∀ p∈X.pn++pins,p.1≠it):Inv X pins σ H { s with heap:=h',toks:=t' }:=by
 have nit:∀ b u,H b=some u→b≠it:=fun b u e z=>by rw [z,hn] at e; cases e
 refine I.step (g':=s.gens) (d':=s.drawn) (ch:=[it]) (fun b hb=>?_) (fun b o _ _ hc e _=>k b o (fun z=>hc (by simp [z])) e) (fun b o _ _ hc e _=>⟨o.slots,k b o (fun z=>hc (by simp [z])) e⟩) (fun _ _ _ _ n=>n)
  (fun b o hc e=>⟨o,k b o (fun z=>hc (by simp [z])) e⟩) (fun _ _ e=>e) (fun _ _ _ e=>e) (fun b ps e=>⟨#[],by rw [e]; simp⟩) (fun m hm=>?_) (fun b u e=>?_) I.bare
 ·have e:b=it:=by simpa using hb
  subst e
  exact ⟨h1,hL,h2,h3⟩
 ·obtain ⟨o,es,ep,ho,r⟩:=hm
  exact ⟨o,es,ep,k _ o (Ne.symm hL) ho,r⟩
 ·refine (I.hok b u e).stay (fun c v hc q=>k c v ?_ q) (fun _ q=>q) fun _ _ q=>q
  rcases hc with z | z
  ·rw [z]; exact nit b u e
  ·exact nit c _ z
theorem Inv.tok (I:Inv X pins σ H s) (t:Nat):Inv X pins σ H { s with toks:=t }:=I.un (h':=s.heap) (t':=t) Un.refl I.hok
theorem Inv.kept {t':Nat} (I:Inv X pins σ H s) (k:∀ b u,s.heap.get? b=some u→h'.get? b=some u):Inv X pins σ H { s with heap:=h',toks:=t' }:=I.un (Un.kept k) (I.hok.kept k)
theorem Inv.laid {a:Addr} {o:HO} {t':Nat} (I:Inv X pins σ H s) (k:∀ b u,s.heap.get? b=some u→h'.get? b=some u) (hp:s.heap.objs.size≤a) (new:ObjOk X.prog X.w (upd H a o) h' a o) :
  Inv X pins σ (upd H a o) { s with heap:=h',toks:=t' }:=I.un (Un.laid k hp (I.hok.fresh hp)) (I.hok.laid k hp new)
theorem Inv.write {x e:Addr} {o:HO} {t':Nat} (I:Inv X pins σ H s) (mu:Mut (H x)) (he:e=x∨H e=some (.own x)) (k:∀ b u,b≠e→s.heap.get? b=some u→h'.get? b=some u) (heo:∃ u,h'.get? e=some u)
  (new:ObjOk X.prog X.w (upd H x o) h' x o):Inv X pins σ (upd H x o) { s with heap:=h',toks:=t' }:=I.un (Un.write mu he k heo) (I.hok.write mu he k heo new)
theorem Inv.pins_of {pins':List (Addr×Obj)} (I:Inv X pins σ H s) (h:∀ p∈pins',s.heap.get? p.1=some p.2∧H p.1=none∧p.1≠X.env.locals∧p.1∉X.fs∧∀ v,p.2.data≠.cell v):Inv X pins' σ H s:=
 ⟨I.ok,I.os,I.bare,I.base,I.loc,I.cell,I.free,I.freeC,fun p hp=>(List.mem_append.mp hp).elim (fun z=>I.pin p (List.mem_append_left _ z)) (h p),I.hok,I.len⟩
theorem nodup_ix {N:List Str} (hN:N.Nodup) {i j:Nat} {x:Str} (a:N[i]? = some x) (b:N[j]? = some x):i=j:=by
 obtain ⟨h1,e1⟩:=List.getElem?_eq_some_iff.mp a
 obtain ⟨h2,e2⟩:=List.getElem?_eq_some_iff.mp b
 exact (List.getElem_inj hN).mp (e1.trans e2.symm)
theorem store_ok2 {M:Model} {A:Around} {E:Value→Shared→Prop} {i:Nat} {x:Str} {v:V} {u:Value} {Q:Unit→Shared→Prop} (I:Inv X pins σ H s) (hN:X.N.Nodup) (hi:X.N[i]? = some x) (hx:Loc X.env.scope x) (r:RelV v u)
  (h:∀ s',Inv X pins (σ.set i (some v)) H s'→(∃ a,Heap.SameBut a s.heap s'.heap∧(a=X.env.locals∨X.env.cells.lookup x=some a))→Q () s') (hf:X.fn x=true∨X.env.scope.names.lookup x=some .local:=by first | exact .inl rfl | exact .inr rfl | assumption):wpAny M A (storeName X.env x u) Q E s:=by
 obtain ⟨m,hn,hl⟩:=id I.loc
 have hcls:(X.env.scope.kind==.class||(X.env.scope.kind==.module&&X.env.locals != X.env.globals))=false:=by rw [I.ok.kind]; rfl
 have hiσ:i < σ.length:=by rw [I.len]; exact (List.getElem?_eq_some_iff.mp hi).1
 have cne:=I.cne
 have tracked:∀ {a:Addr} {h':Heap},(∃ o,s.heap.get? a=some o∧H a=none)→Heap.SameBut a s.heap h'→HOk X.prog X.w H h':=fun {a h'} ha hs b ob e=>by
  obtain ⟨_,_,hfree⟩:=ha
  refine (I.hok b ob e).stay (fun c w' hc q=>(hs.2 c ?_).trans q) (fun _ q=>q) fun _ _ q=>q
  rintro rfl
  rcases hc with rfl | hc
  ·rw [hfree] at e; cases e
  ·rw [hfree] at hc; cases hc
 rcases hx with hk | hk
 ·refine wpAny_storeName_local hk hn (fun h' hn' hs=>?_) hcls
  obtain ⟨oL,_,_,hoL,_⟩:=id hn
  refine h _ ⟨I.ok,I.os,I.bare,⟨fun b o e n hb hx=>?_,fun b o e n hb hx=>?_,I.base.free,fun b o e hx=>?_,I.base.tups,I.base.frzs,I.base.tbls⟩,⟨_,hn',fun j y v' e1 e2 e3=>?_⟩,fun y c e=>?_,I.free,I.freeC,fun p hp=>?_,tracked ⟨oL,hoL,I.free⟩ hs,by simpa using I.len⟩ ⟨_,hs,.inl rfl⟩
  ·exact (hs.2 b (Nat.ne_of_lt (Nat.lt_of_lt_of_le (Heap.lt_size e) I.ok.above))).trans (I.base.keep b o e n hb hx)
  ·obtain ⟨sl,e1⟩:=I.base.slot b o e n hb hx
   exact ⟨sl,(hs.2 b (Nat.ne_of_lt (Nat.lt_of_lt_of_le (Heap.lt_size e) I.ok.above))).trans e1⟩
  ·obtain ⟨o',e1⟩:=I.base.there b o e hx
   exact ⟨o',(hs.2 b (Nat.ne_of_lt (Nat.lt_of_lt_of_le (Heap.lt_size e) I.ok.above))).trans e1⟩
  ·by_cases hj:j=i
   ·subst hj
    rw [hi] at e1; cases e1
    rw [List.getElem?_set_self hiσ] at e2
    cases e2
    exact ⟨u,r,.inl ⟨hk,by simp⟩⟩
   ·rw [List.getElem?_set_ne (Ne.symm hj)] at e2
    obtain ⟨u',r',q⟩:=hl j y v' e1 e2 e3
    refine ⟨u',r',?_⟩
    rcases q with ⟨k,e⟩ | ⟨k,c,e,z⟩
    ·refine .inl ⟨k,?_⟩
     have:y≠x:=fun e=>hj (nodup_ix hN e1 (e▸hi))
     simp [this,e]
    ·exact .inr ⟨k,c,e,z.sameBut hs (cne y c e)⟩
  ·obtain ⟨w',z⟩:=I.cell y c e
   exact ⟨w',z.sameBut hs (cne y c e)⟩
  ·obtain ⟨e,n,ne,nf,d⟩:=I.pin p hp
   exact ⟨(hs.2 p.1 ne).trans e,n,ne,nf,d⟩
 ·have hfn:X.fn x=true:=by
   rcases hf with z | z
   ·exact z
   ·rw [z] at hk; cases hk
  obtain ⟨c,hc⟩:=I.ok.has x (.inl hk)
  obtain ⟨w',z⟩:=I.cell x c hc
  refine wpAny_storeName_cell I.ok.kind hk hc z (fun h' hc' hs=>?_)
  obtain ⟨oc,hoc,hocd⟩:=id z
  refine h { s with heap:=h' } ⟨I.ok,I.os,I.bare,⟨fun b o e n hb hx=>?_,fun b o e n hb hx=>?_,I.base.free,fun b o e hx=>?_,I.base.tups,I.base.frzs,I.base.tbls⟩,⟨m,hn.sameBut hs (Ne.symm (cne x c hc)),fun j y v' e1 e2 e3=>?_⟩,fun y c' e=>?_,I.free,I.freeC,fun p hp=>?_,tracked ⟨oc,hoc,I.freeC x c hc⟩ hs,by simpa using I.len⟩ ⟨c,hs,.inr hc⟩
  ·exact (hs.2 b (Nat.ne_of_lt (Nat.lt_of_lt_of_le (Heap.lt_size e) (I.ok.cab x c hfn hc)))).trans (I.base.keep b o e n hb hx)
  ·obtain ⟨sl,e1⟩:=I.base.slot b o e n hb hx
   exact ⟨sl,(hs.2 b (Nat.ne_of_lt (Nat.lt_of_lt_of_le (Heap.lt_size e) (I.ok.cab x c hfn hc)))).trans e1⟩
  ·obtain ⟨o',e1⟩:=I.base.there b o e hx
   exact ⟨o',(hs.2 b (Nat.ne_of_lt (Nat.lt_of_lt_of_le (Heap.lt_size e) (I.ok.cab x c hfn hc)))).trans e1⟩
  ·by_cases hj:j=i
   ·subst hj
    rw [hi] at e1; cases e1
    rw [List.getElem?_set_self hiσ] at e2
    cases e2
    exact ⟨u,r,.inr ⟨.inl hk,c,hc,hc'⟩⟩
   ·rw [List.getElem?_set_ne (Ne.symm hj)] at e2
    obtain ⟨u',r',q⟩:=hl j y v' e1 e2 e3
    refine ⟨u',r',?_⟩
    rcases q with q | ⟨k,c',e,z'⟩
    ·exact .inl q
    ·refine .inr ⟨k,c',e,z'.sameBut hs ?_⟩
     rintro rfl
     exact hj (nodup_ix hN e1 (I.ok.inj _ _ _ e hc▸hi))
  ·by_cases hcc:c'=c
   ·subst hcc; exact ⟨_,hc'⟩
   ·obtain ⟨w2,z2⟩:=I.cell y c' e
    exact ⟨w2,z2.sameBut hs hcc⟩
  ·obtain ⟨e,n,ne,nf,d⟩:=I.pin p hp
   refine ⟨(hs.2 p.1 ?_).trans e,n,ne,nf,d⟩
   intro q
   rw [q,hoc] at e
   have q':oc=p.2:=Option.some.inj e
   exact d w' (by rw [← q']; exact hocd)
theorem store_ok {M:Model} {A:Around} {E:Value→Shared→Prop} {i:Nat} {x:Str} {v:V} {u:Value} {Q:Unit→Shared→Prop} (I:Inv X pins σ H s) (hN:X.N.Nodup) (hi:X.N[i]? = some x) (hx:Loc X.env.scope x) (r:RelV v u)
  (h:∀ s',Inv X pins (σ.set i (some v)) H s'→Q () s') (hf:X.fn x=true∨X.env.scope.names.lookup x=some .local:=by first | exact .inl rfl | exact .inr rfl | assumption):wpAny M A (storeName X.env x u) Q E s:=
 store_ok2 I hN hi hx r (fun s' I' _=>h s' I') hf
theorem Inv.call' {s':Shared} {ch:List Addr} (I:Inv X pins σ H s) (ho:s'.os=s.os) (u:Un (frs X.stack) ch H H' s.heap s'.heap) (hok:HOk X.prog X.w H' s'.heap) (hg:AllBare s'.gens)
  (hch:∀ b∈ch,(b∈X.ex∨X.s₀.heap.objs.size≤b)∧b≠X.env.locals∧(∀ x c,X.env.cells.lookup x=some c→c≠b)∧∀ p∈X.pn++pins,p.1≠b):Inv X pins σ H' s':=by
 obtain ⟨h',g',d',t',o'⟩:=s'
 have e:o'=s.os:=ho
 subst e
 exact I.call (g':=g') (t':=t') (d':=d') u hok hg hch
end
abbrev XK:=Value→Option Addr→Hp→Prop
abbrev St:=List (Option V)
abbrev VK:=V→Hp→Prop
abbrev TE:=St→Hp→VK→Prop
abbrev TT:=St→Hp→(Bool→Hp→Prop)→Prop
abbrev TA:=St→Hp→(List V→Hp→Prop)→Prop
structure Ends where
 nx:St→Hp→Prop
 rt:VK
 bk:St→Hp→Prop:=fun _ _=>False
 ct:St→Hp→Prop:=fun _ _=>False
abbrev TS:=Ends→St→Hp→Prop
def EP (X:Cx) (pins:List (Addr×Obj)) (σ:St) (Q:VK) (u:Value) (s':Shared):Prop:=∃ v H',Inv X pins σ H' s'∧RelV v u∧Q v H'
def TP (X:Cx) (pins:List (Addr×Obj)) (σ:St) (Q:Bool→Hp→Prop) (b:Bool) (s':Shared):Prop:=∃ H',Inv X pins σ H' s'∧Q b H'
def AP (X:Cx) (pins:List (Addr×Obj)) (σ:St) (Q:List V→Hp→Prop) (us:List Value) (s':Shared):Prop:=∃ vs H',Inv X pins σ H' s'∧Vals vs us∧Q vs H'
def SP (X:Cx) (pins:List (Addr×Obj)) (D:Ends) (f:Flow) (s':Shared):Prop:=
 match f with
 | .next=>∃ σ' H',Inv X pins σ' H' s'∧D.nx σ' H'
 | .brk=>∃ σ' H',Inv X pins σ' H' s'∧D.bk σ' H'
 | .cont=>∃ σ' H',Inv X pins σ' H' s'∧D.ct σ' H'
 | .ret u=>∃ v σ' H',Inv X pins σ' H' s'∧RelV v u∧D.rt v H'
def PE (X:Cx) (e:Expr) (t:TE):Prop:=
 ∀ (pins:List (Addr×Obj)) (s:Shared) (σ:St) (H:Hp) (Q:VK),Inv X pins σ H s→t σ H Q→wpAny (model X.prog X.w) X.A (eval e X.env) (EP X pins σ Q) X.xe s
def PT (X:Cx) (e:Expr) (t:TT):Prop:=
 ∀ (pins:List (Addr×Obj)) (s:Shared) (σ:St) (H:Hp) (Q:Bool→Hp→Prop),Inv X pins σ H s→t σ H Q→wpAny (model X.prog X.w) X.A (isTrue e X.env (eval e X.env)) (TP X pins σ Q) X.xe s
def PW (X:Cx) (e:Expr) (t:TT):Prop:=
 ∀ (whole:Sem Value) (pins:List (Addr×Obj)) (s:Shared) (σ:St) (H:Hp) (Q:Bool→Hp→Prop),Inv X pins σ H s→t σ H Q→wpAny (model X.prog X.w) X.A (isTrue e X.env whole) (TP X pins σ Q) X.xe s
theorem PW.pt {X:Cx} {e:Expr} {t:TT} (h:PW X e t):PT X e t:=h _
def PA (X:Cx) (es:List Expr) (t:TA):Prop:=
 ∀ (pos:Pos) (pins:List (Addr×Obj)) (s:Shared) (σ:St) (H:Hp) (Q:List V→Hp→Prop),Inv X pins σ H s→t σ H Q→wpAny (model X.prog X.w) X.A (spliced (backTo pos (starEach es X.env))) (AP X pins σ Q) X.xe s
def PS (X:Cx) (st:Stmt) (t:TS):Prop:=
 ∀ (pins:List (Addr×Obj)) (s:Shared) (σ:St) (H:Hp) (D:Ends),Inv X pins σ H s→t D σ H→wpAny (model X.prog X.w) X.A (exec st X.env) (SP X pins D) X.xe s
def PSs (X:Cx) (st:List Stmt) (t:TS):Prop:=
 ∀ (pins:List (Addr×Obj)) (s:Shared) (σ:St) (H:Hp) (D:Ends),Inv X pins σ H s→t D σ H→wpAny (model X.prog X.w) X.A (execs st X.env) (SP X pins D) X.xe s
theorem thn {α:Type} {t:Sem α} {Q Q':α→Shared→Prop} {M:Model} {A:Around} {E:Value→Shared→Prop} {s:Shared} (h:wpAny M A t Q E s) (hQ:∀ a s,Q a s→Q' a s):wpAny M A t Q' E s:=wpAny_mono h hQ fun _ _ x=>x
end L2
namespace L2
open PySem PySem.Spec PyProof.Rows
section
variable {X:Cx}
def tVar (i:Nat):TE:=fun σ H Q=>∃ v,σ[i]? = some (some v)∧Q v H
def tC (v:V):TE:=fun _ H Q=>Q v H
theorem pe_var {i:Nat} {x:Str} {pos:Pos} (hN:X.N[i]? = some x) (hv:Vis X.env.scope x) (hd:(x==("__debug__":Str))=false:=by decide) (hcd:(x==("__classdict__":Str))=false:=by decide):PE X (.Name x pos) (tVar i):=by
 intro pins s σ H Q I h
 obtain ⟨v,e,h⟩:=h
 obtain ⟨m,hn,hl⟩:=I.loc
 obtain ⟨u,r,l⟩:=hl i x v hN e hv
 have fin:EP X pins σ Q u s:=⟨v,H,I,r,h⟩
 rcases l with ⟨hk,hm⟩ | ⟨hk,c,hc,hcell⟩
 ·exact wpAny_Name (wpAny_loadName_local I.ok.kind hk hn hm fin) hd
 ·rcases hk with hk | hk
  ·exact wpAny_Name (wpAny_loadName_cell I.ok.kind hk hc hcell fin) hd
  ·exact wpAny_Name (wpAny_loadName_free I.ok.kind hk hc hcell fin hcd) hd
theorem pe_int {i j pos}:PE X (.Constant (.int i) j pos) (tC (.int i)):=fun _ _ _ H _ I h=>wpAny_Constant_int ⟨.int i,H,I.tok _,⟨_,rfl⟩,h⟩
theorem pe_bl {b j pos}:PE X (.Constant (.bool b) j pos) (tC (.bl b)):=fun _ _ _ H _ I h=>Constant_bool ⟨.bl b,H,I,rfl,h⟩
theorem pe_non {j pos}:PE X (.Constant .none j pos) (tC .non):=fun _ _ _ H _ I h=>Constant_none ⟨.non,H,I,rfl,h⟩
theorem pe_str {x j pos}:PE X (.Constant (.str x) j pos) (tC (.str x)):=fun _ _ _ H _ I h=>Calls.Constant_str ⟨.str x,H,I.tok _,⟨_,rfl⟩,h⟩
def Gl (X:Cx) (x:Str):Prop:=X.env.kindOf x=some .globalImplicit
theorem ld_glob {E:Value→Shared→Prop} {pins:List (Addr×Obj)} {s:Shared} {σ:St} {H:Hp} {x:Str} {u:Value} {pos:Pos} {Q:Value→Shared→Prop} (I:Inv X pins σ H s) (hg:Gl X x) (hm:X.mg x=some u) (h:Q u s)
  (hd:(x==("__debug__":Str))=false:=by decide):wpAny (model X.prog X.w) X.A (eval (.Name x pos) X.env) Q E s:=
 Calls.Name_function_global I.ok.kind hg (Calls.loadGlobal_global (by rw [I.ok.glob]; exact I.mod.glob.keeps I.bk) hm h) hd
theorem ld_blt {E:Value→Shared→Prop} {pins:List (Addr×Obj)} {s:Shared} {σ:St} {H:Hp} {x:Str} {u:Value} {pos:Pos} {Q:Value→Shared→Prop} (I:Inv X pins σ H s) (hg:Gl X x) (hm:X.mg x=none) (hv:bootBuiltins x=some u) (h:Q u s)
  (hn:x≠"__name__":=by decide) (hd:(x==("__debug__":Str))=false:=by decide):wpAny (model X.prog X.w) X.A (eval (.Name x pos) X.env) Q E s:=by
 obtain ⟨mb,h1,h2⟩:=I.mod.blt
 exact Calls.Name_function_global I.ok.kind hg (Calls.loadGlobal_builtin (by rw [I.ok.glob]; exact I.mod.glob.keeps I.bk) hm (by rw [I.ok.blt]; exact h1.keeps I.bk) ((h2 x hn).trans hv) h) hd
theorem pe_glob {x:Str} {v:V} {u:Value} {pos:Pos} (hg:Gl X x) (hm:X.mg x=some u) (r:RelV v u) (hd:(x==("__debug__":Str))=false:=by decide):PE X (.Name x pos) (tC v):=
 fun _ _ _ H _ I h=>ld_glob I hg hm ⟨v,H,I,r,h⟩ hd
theorem pe_bltn {x:Str} {v:V} {u:Value} {pos:Pos} (hg:Gl X x) (hm:X.mg x=none) (hv:bootBuiltins x=some u) (r:RelV v u) (hn:x≠"__name__":=by decide) (hd:(x==("__debug__":Str))=false:=by decide):PE X (.Name x pos) (tC v):=
 fun _ _ _ H _ I h=>ld_blt I hg hm hv ⟨v,H,I,r,h⟩ hn hd
variable {a b:Expr} {ta tb:TE} {pos:Pos}
def tB (t:TE):TT:=fun σ H Q=>t σ H fun x H1=>∃ c,x=.bl c∧Q c H1
theorem pt_val {e:Expr} {t:TE} (h:PE X e t) (he:∀ whole,isTrue e X.env whole=(do let v ← whole; standAt e.pos; holding [v] (truthy v)):=by intro _; rfl):PT X e (tB t):=by
 intro pins s σ H Q I hw
 refine isTrue_plain (thn (h pins s σ H _ I hw) fun v s1 ⟨x,H1,I1,r1,q1⟩=>?_) (he _)
 obtain ⟨d,rfl,q⟩:=q1
 cases r1
 exact wpAny_truthy_bool ⟨H1,I1,q⟩
variable {tA tB':TT} {rest:List Expr}
def tAnd (t u:TT):TT:=fun σ H Q=>t σ H fun c H1=>if c=true then u σ H1 Q else Q false H1
def tOr (t u:TT):TT:=fun σ H Q=>t σ H fun c H1=>if c=true then Q true H1 else u σ H1 Q
def tNot (t:TT):TT:=fun σ H Q=>t σ H fun c H1=>Q (!c) H1
theorem pw_and1 (ha:PT X a tA):PW X (.BoolOp .And [a] pos) tA:=by
 intro wh pins s σ H Q I h
 refine isTrue_and (thn (ha pins s σ H Q I h) fun c s1 e=>?_)
 cases c with
 | true=>exact isTrue_and_nil e
 | false=>exact e
theorem pw_or1 (ha:PT X a tA):PW X (.BoolOp .Or [a] pos) tA:=by
 intro wh pins s σ H Q I h
 refine isTrue_or (thn (ha pins s σ H Q I h) fun c s1 e=>?_)
 cases c with
 | false=>exact isTrue_or_nil e
 | true=>exact e
theorem pw_and (ha:PT X a tA) (hb:PW X (.BoolOp .And (b :: rest) pos) tB'):PW X (.BoolOp .And (a :: b :: rest) pos) (tAnd tA tB'):=by
 intro wh pins s σ H Q I h
 refine isTrue_and (thn (ha pins s σ H _ I h) fun c s1 ⟨H1,I1,q1⟩=>?_)
 cases c with
 | true=>exact hb wh pins s1 σ H1 Q I1 q1
 | false=>exact ⟨H1,I1,q1⟩
theorem pw_or (ha:PT X a tA) (hb:PW X (.BoolOp .Or (b :: rest) pos) tB'):PW X (.BoolOp .Or (a :: b :: rest) pos) (tOr tA tB'):=by
 intro wh pins s σ H Q I h
 refine isTrue_or (thn (ha pins s σ H _ I h) fun c s1 ⟨H1,I1,q1⟩=>?_)
 cases c with
 | true=>exact ⟨H1,I1,q1⟩
 | false=>exact hb wh pins s1 σ H1 Q I1 q1
theorem pt_not (ha:PT X a tA):PT X (.UnaryOp .Not a pos) (tNot tA):=by
 intro pins s σ H Q I h
 exact isTrue_not (ha pins s σ H (fun c H1=>Q (!c) H1) I h)
def tAndV (ta tb:TE):TE:=fun σ H Q=>ta σ H fun x H1=>∃ c,x=.bl c∧if c=true then tb σ H1 Q else Q (.bl false) H1
def tNotV (ta:TE):TE:=fun σ H Q=>ta σ H fun x H1=>∃ c,x=.bl c∧Q (.bl (!c)) H1
theorem pe_one {op} {t:TE} (h:PE X a t):PE X (.BoolOp op [a] pos) t:=fun pins s σ H Q I hw=>BoolOp_one (h pins s σ H Q I hw)
theorem pe_and (ha:PE X a ta) (hb:PE X (.BoolOp .And (b :: rest) pos) tb):PE X (.BoolOp .And (a :: b :: rest) pos) (tAndV ta tb):=by
 intro pins s σ H Q I h
 refine BoolOp_and (thn (ha pins s σ H _ I h) fun v s1 ⟨x,H1,I1,r1,q1⟩=>?_)
 obtain ⟨c,rfl,q1⟩:=q1
 cases r1
 refine wpAny_truthy_bool ?_
 cases c with
 | true=>exact hb pins s1 σ H1 Q I1 q1
 | false=>exact ⟨.bl false,H1,I1,rfl,q1⟩
theorem pe_not (ha:PE X a ta):PE X (.UnaryOp .Not a pos) (tNotV ta):=by
 intro pins s σ H Q I h
 refine UnaryOp_ (thn (ha pins s σ H _ I h) fun v s1 ⟨x,H1,I1,r1,q1⟩=>?_)
 obtain ⟨c,rfl,q1⟩:=q1
 cases r1
 exact not_of (wpAny_truthy_bool ⟨.bl (!c),H1,I1,rfl,q1⟩)
end
end L2
namespace L2
open PySem PySem.Spec PyProof.Rows
def SqL (K:W.Frag) (H:Hp) (a:Addr) (xs:List V):Prop:=
 Rd H a (.lst xs)∨
  ∃ (o:Obj) (its:Array Value) (n:Nat),K.lookup a=some o∧o.cls=.type "list"∧o.dict=none∧o.data=.seq its n∧its.size≤sizeLine∧Vals xs its.toList
def SqT (K:W.Frag) (H:Hp) (a:Addr) (xs:List V):Prop:=
 Rd H a (.tup xs)∨
  ∃ (o:Obj) (its:Array Value) (n:Nat),K.lookup a=some o∧o.cls=.type "tuple"∧o.data=.seq its n∧its.size≤sizeLine∧Vals xs its.toList
def absV:Value→Option V
 | .none=>some .non
 | .bool b=>some (.bl b)
 | .int i _=>some (.int i)
 | .str x _=>some (.str x)
 | .bytes b _=>some (.byt b)
 | .float b _=>some (.flt b)
 | .ref a=>some (.ref a)
 | .type n=>some (.ty n)
 | _=>none
theorem RelV.abs {x:V} {u:Value} (r:RelV x u):absV u=some x:=by
 cases x with
 | non=>cases r; rfl
 | bl _=>cases r; rfl
 | int _=>obtain ⟨t,rfl⟩:=r; rfl
 | str _=>obtain ⟨t,rfl⟩:=r; rfl
 | byt _=>obtain ⟨t,rfl⟩:=r; rfl
 | flt _=>obtain ⟨t,rfl⟩:=r; rfl
 | ref _=>cases r; rfl
 | ty _=>cases r; rfl
theorem RelV.inj {x y:V} {u:Value} (r:RelV x u) (q:RelV y u):x=y:=Option.some.inj (r.abs.symm.trans q.abs)
theorem Vals.inj:∀ {xs ys:List V} {us:List Value},Vals xs us→Vals ys us→xs=ys
 | _,_,_,.nil,.nil=>rfl
 | _,_,_,.cons r t,.cons r' t'=>by rw [r.inj r',Vals.inj t t']
section
variable {X:Cx} {pins:List (Addr×Obj)} {σ:St} {H:Hp} {s:Shared} {a:Addr} {xs ys:List V}
theorem Inv.list (I:Inv X pins σ H s) (h:SqL X.K H a xs):∃ its:List Value,Vals xs its∧PlainL s.heap a its.toArray∧xs.length≤sizeLine:=by
 rcases h with h | ⟨o,its,n,hk,hc,hd,hs,hz,r⟩
 ·obtain ⟨z,its,n,r,e⟩:=h.ok I.hok
  exact ⟨its,r,⟨_,n,e,rfl,rfl,rfl⟩,z⟩
 ·refine ⟨its.toList,r,⟨o,n,I.kIn a o hk,hc,hd,by simpa using hs⟩,?_⟩
  have e:=r.length
  simp only [Array.length_toList] at e
  omega
theorem Inv.tuple (I:Inv X pins σ H s) (h:SqT X.K H a xs):∃ its:List Value,Vals xs its∧IsTup s.heap a its.toArray∧xs.length≤sizeLine:=by
 rcases h with h | ⟨o,its,n,hk,hc,hs,hz,r⟩
 ·obtain ⟨z,its,r,p⟩:=h.ok I.hok
  exact ⟨its,r,p,z⟩
 ·refine ⟨its.toList,r,⟨o,I.kIn a o hk,hc,n,by simpa using hs⟩,?_⟩
  have e:=r.length
  simp only [Array.length_toList] at e
  omega
theorem Inv.list_inj (I:Inv X pins σ H s) (h:SqL X.K H a xs) (h':SqL X.K H a ys):xs=ys:=by
 obtain ⟨its,r,⟨o,n,e,_,_,d⟩,_⟩:=I.list h
 obtain ⟨its',r',⟨o',n',e',_,_,d'⟩,_⟩:=I.list h'
 rw [e] at e'; cases e'
 rw [d] at d'
 injection d' with d1 _
 have:its=its':=by simpa using congrArg Array.toList d1
 subst this
 exact r.inj r'
theorem Inv.tuple_inj (I:Inv X pins σ H s) (h:SqT X.K H a xs) (h':SqT X.K H a ys):xs=ys:=by
 obtain ⟨its,r,⟨o,e,_,n,d⟩,_⟩:=I.tuple h
 obtain ⟨its',r',⟨o',e',_,n',d'⟩,_⟩:=I.tuple h'
 rw [e] at e'; cases e'
 rw [d] at d'
 injection d' with d1 _
 have:its=its':=by simpa using congrArg Array.toList d1
 subst this
 exact r.inj r'
end
abbrev Cx.wish (X:Cx) (E:Value→Shared→Prop):Cx:={ X with xe:=E }
abbrev Cx.nox (X:Cx):Cx:=X.wish fun _ _=>False
theorem Cx.Ok.wish {X:Cx} (ok:X.Ok) (E:Value→Shared→Prop):(X.wish E).Ok:=
 ⟨ok.mod,ok.kind,ok.glob,ok.blt,ok.above,ok.inj,ok.has,ok.cab,ok.hd,ok.frames,ok.stk,ok.exf,ok.bs,ok.bsz,ok.noex,ok.exfs,ok.funs,ok.frf⟩
theorem Cx.Ok.unwish {X:Cx} {E:Value→Shared→Prop} (ok:(X.wish E).Ok):X.Ok:=
 ⟨ok.mod,ok.kind,ok.glob,ok.blt,ok.above,ok.inj,ok.has,ok.cab,ok.hd,ok.frames,ok.stk,ok.exf,ok.bs,ok.bsz,ok.noex,ok.exfs,ok.funs,ok.frf⟩
section
variable {X:Cx} {pins:List (Addr×Obj)} {σ:St} {H:Hp} {s:Shared} {E:Value→Shared→Prop}
theorem Inv.wish (I:Inv X pins σ H s) (E:Value→Shared→Prop):Inv (X.wish E) pins σ H s:=⟨I.ok.wish E,I.os,I.bare,I.base,I.loc,I.cell,I.free,I.freeC,I.pin,I.hok,I.len⟩
theorem Inv.unwish (I:Inv (X.wish E) pins σ H s):Inv X pins σ H s:=⟨I.ok.unwish,I.os,I.bare,I.base,I.loc,I.cell,I.free,I.freeC,I.pin,I.hok,I.len⟩
theorem SP.unwish {D:Ends} {f:Flow} {s':Shared} (h:SP (X.wish E) pins D f s'):SP X pins D f s':=by
 cases f with
 | next=>obtain ⟨σ',H',I,q⟩:=h; exact ⟨σ',H',I.unwish,q⟩
 | brk=>obtain ⟨σ',H',I,q⟩:=h; exact ⟨σ',H',I.unwish,q⟩
 | cont=>obtain ⟨σ',H',I,q⟩:=h; exact ⟨σ',H',I.unwish,q⟩
 | ret u=>obtain ⟨v,σ',H',I,r,q⟩:=h; exact ⟨v,σ',H',I.unwish,r,q⟩
theorem PSs.nox {st:List Stmt} {t:TS} (h:PSs X.nox st t):PSs X st t:=fun pins s σ H D I hw=>
 wpAny_mono (h pins s σ H D (I.wish _) hw) (fun _ _ q=>q.unwish) fun _ _ z=>False.elim z
end
section
variable {X:Cx} {st:Stmt} {rest:List Stmt} {t u:TS} {e:Expr} {te:TE} {pos:Pos}
def tNext:TS:=fun D σ H=>D.nx σ H
def tSeq (t u:TS):TS:=fun D σ H=>t { D with nx:=u D } σ H
theorem pss_nil:PSs X [] tNext:=fun _ _ σ H _ I h=>wpAny_execs_nil ⟨σ,H,I,h⟩
theorem pss_cons (h1:PS X st t) (h2:PSs X rest u):PSs X (st :: rest) (tSeq t u):=by
 intro pins s σ H D I h
 refine wpAny_execs_cons (thn (h1 pins s σ H { D with nx:=u D } I h) fun f s1 q=>?_)
 cases f with
 | next=>
  obtain ⟨σ',H',I',q⟩:=q
  exact h2 pins s1 σ' H' D I' q
 | ret v=>exact q
 | brk=>exact q
 | cont=>exact q
theorem pss_one (h1:PS X st t):PSs X [st] t:=by
 intro pins s σ H D I h
 refine wpAny_execs_cons (thn (h1 pins s σ H D I h) fun f s1 q=>?_)
 cases f with
 | next=>exact wpAny_execs_nil q
 | ret v=>exact q
 | brk=>exact q
 | cont=>exact q
theorem Inv.quiet {pins:List (Addr×Obj)} {σ:St} {H:Hp} {s:Shared} (I:Inv X pins σ H s):interactive X.env=false:=by simp [interactive,I.ok.kind]
def tDrop (te:TE):TS:=fun D σ H=>te σ H fun _ H1=>D.nx σ H1
theorem ps_expr (he:PE X e te) (hs:swapsWith e none pos.line X.env=pure false:=by rfl):PS X (.Expr e pos) (tDrop te):=by
 intro pins s σ H D I h
 exact wpAny_Expr_any (thn (he pins s σ H _ I h) fun v s1 ⟨x,H1,I1,r1,q1⟩=>⟨σ,H1,I1,q1⟩) I.quiet hs
def tRet (te:TE):TS:=fun D σ H=>te σ H D.rt
theorem ps_ret (he:PE X e te):PS X (.Return (some e) pos) (tRet te):=by
 intro pins s σ H D I h
 exact wpAny_Return_some (thn (he pins s σ H _ I h) fun v s1 ⟨x,H1,I1,r1,q1⟩=>⟨x,σ,H1,I1,r1,q1⟩)
def tIfS (c:TT) (t u:TS):TS:=fun D σ H=>c σ H fun b H1=>if b=true then t D σ H1 else u D σ H1
theorem ps_if {c:Expr} {a b:List Stmt} {tc:TT} (hc:PT X c tc) (ha:PSs X a t) (hb:PSs X b u):PS X (.If c a b pos) (tIfS tc t u):=by
 intro pins s σ H D I h
 refine wpAny_If (thn (hc pins s σ H _ I h) fun d s1 ⟨H1,I1,q1⟩=>?_)
 cases d with
 | true=>exact ha pins s1 σ H1 D I1 q1
 | false=>exact hb pins s1 σ H1 D I1 q1
def tNever:TS:=fun _ _ _=>False
theorem ps_never:PS X st tNever:=fun _ _ _ _ _ _ h=>h.elim
end
abbrev TG:=V→St→Hp→(St→Hp→Prop)→Prop
abbrev TGs:=List V→St→Hp→(St→Hp→Prop)→Prop
def PG (X:Cx) (target:Expr) (t:TG):Prop:=
 ∀ (pins:List (Addr×Obj)) (s:Shared) (σ:St) (H:Hp) (v:V) (u:Value) (Q:St→Hp→Prop),Inv X pins σ H s→RelV v u→t v σ H Q→
  wpAny (model X.prog X.w) X.A (assign target X.env u) (fun _ s'=>∃ σ' H',Inv X pins σ' H' s'∧Q σ' H') X.xe s
def PGs (X:Cx) (ts:List Expr) (t:TGs):Prop:=
 ∀ (pins:List (Addr×Obj)) (s:Shared) (σ:St) (H:Hp) (vs:List V) (us:List Value) (Q:St→Hp→Prop),Inv X pins σ H s→Vals vs us→t vs σ H Q→
  wpAny (model X.prog X.w) X.A (assignInOrder ((assignEach ts X.env).map (·.2)) us) (fun _ s'=>∃ σ' H',Inv X pins σ' H' s'∧Q σ' H') X.xe s
abbrev TSet:=V→V→V→Hp→(Hp→Prop)→Prop
def PSet (X:Cx) (t:TSet):Prop:=
 ∀ (pins:List (Addr×Obj)) (s:Shared) (σ:St) (H:Hp) (o i v:V) (ov iv u:Value) (Q:Hp→Prop),Inv X pins σ H s→RelV o ov→RelV i iv→RelV v u→t o i v H Q→
  wpAny (model X.prog X.w) X.A (setItem ov iv u) (fun _ s'=>∃ H',Inv X pins σ H' s'∧Q H') X.xe s
section
variable {X:Cx} {pos:Pos}
def gName (i:Nat):TG:=fun v σ H Q=>Q (σ.set i (some v)) H
theorem pg_name {i:Nat} {x:Str} (hN:X.N.Nodup) (hi:X.N[i]? = some x) (hx:Loc X.env.scope x) (hf:X.fn x=true∨X.env.scope.names.lookup x=some .local:=by first | exact .inl rfl | exact .inr rfl | assumption):PG X (.Name x pos) (gName i):=by
 intro pins s σ H v u Q I r h
 exact wpAny_assign_Name (store_ok I hN hi hx r (fun s' I'=>⟨_,H,I',h⟩) hf)
def gNil:TGs:=fun vs σ H Q=>vs=[]∧Q σ H
def gCons (t:TG) (u:TGs):TGs:=fun vs σ H Q=>∃ v r,vs=v :: r∧t v σ H fun σ' H'=>u r σ' H' Q
theorem pgs_nil:PGs X [] gNil:=by
 intro pins s σ H vs us Q I r h
 obtain ⟨e,h⟩:=h
 subst e
 cases r
 exact assignInOrder_nil ⟨σ,H,I,h⟩
theorem pgs_cons {e:Expr} {es:List Expr} {t:TG} {u:TGs} (h1:PG X e t) (h2:PGs X es u)
  (hs:(assignEach (e :: es) X.env).map (·.2)=assign e X.env :: (assignEach es X.env).map (·.2):=by rfl):PGs X (e :: es) (gCons t u):=by
 intro pins s σ H vs us Q I r h
 obtain ⟨v,vr,e1,h⟩:=h
 subst e1
 cases r with
 | cons r rr=>
  rw [hs]
  refine assignInOrder_cons (thn (h1 pins s σ H _ _ _ I r h) fun _ s1 ⟨σ1,H1,I1,q1⟩=>?_)
  exact h2 pins s1 σ1 H1 _ _ Q I1 rr q1
def gTup (K:W.Frag) (n:Nat) (t:TGs):TG:=fun v σ H Q=>∃ a xs,v=.ref a∧SqT K H a xs∧xs.length=n∧t xs σ H Q
theorem pg_tup {es:List Expr} {k:Nat} {t:TGs} {n:Nat} (hc:X.calm=true) (h:PGs X es t)
  (hn:(assignEach es X.env).length=n:=by rfl) (hst:(assignEach es X.env).findIdx? (·.1)=none:=by rfl):PG X (.Tuple es k pos) (gTup X.K n t):=by
 intro pins s σ H v u Q I r hw
 obtain ⟨a,xs,e1,hq,hl,hw⟩:=hw
 subst e1
 cases r
 obtain ⟨its,rv,ht,hz⟩:=I.tuple hq
 refine assign_Tuple_tuple (I.ok.hd hc) ht (by simp [hn,← hl,rv.length]) hst fun h' hx=>?_
 have I1:Inv X pins σ H { s with heap:=h' }:=I.kept (t':=s.toks) fun b o e=>hx b o (Nat.ne_of_lt (Heap.lt_size e)) e
 exact h pins _ σ H xs _ Q I1 (by simpa using rv) hw
def gSub (to ti:TE) (t:TSet):TG:=fun v σ H Q=>to σ H fun o H1=>ti σ H1 fun i H2=>t o i v H2 fun H3=>Q σ H3
theorem pg_sub {o i : Expr} {to ti : TE} {t : TSet} (ho : PE X o to) (hi : PE X i ti) (hs : PSet X t)
    (ha : ∀ v, assign (.Subscript o i pos) X.env v = (do
      let ov ← holding [v] (eval o X.env)
      let iv ← holding [v, ov] (eval i X.env)
      standAt pos
      holding [v, ov, iv] (setItem ov iv v)
      release [v, ov, iv] []) := by intro _; rfl) : PG X (.Subscript o i pos) (gSub to ti t) := by
  intro pins s σ H v u Q I r h
  rw [ha]
  refine wpAny_bind (wpAny_holding (thn (ho pins s σ H _ I h) fun ov s1 ⟨x, H1, I1, r1, q1⟩ => ?_))
  refine wpAny_bind (wpAny_holding (thn (hi pins s1 σ H1 _ I1 q1) fun iv s2 ⟨y, H2, I2, r2, q2⟩ => ?_))
  refine wpAny_bind (wpAny_standAt (wpAny_bind (wpAny_holding (thn (hs pins s2 σ H2 x y v ov iv u _ I2 r1 r2 r q2) fun _ s3 ⟨H3, I3, q3⟩ => ?_))))
  exact wpAny_release ⟨σ, H3, I3, q3⟩
def tAsg (te:TE) (g:TG):TS:=fun D σ H=>te σ H fun x H1=>g x σ H1 D.nx
theorem ps_asg {tg e:Expr} {te:TE} {g:TG} (he:PE X e te) (hg:PG X tg g) (hs:swapsWithSole [tg] e pos.line X.env=pure false:=by rfl) (hw:swappedStores [tg] e X.env=pure none:=by rfl)
  (h1:(assignEach [tg] X.env).map (·.2)=[assign tg X.env]:=by rfl):PS X (.Assign [tg] e pos) (tAsg te g):=by
 intro pins s σ H D I h
 refine wpAny_Assign_stores (thn (he pins s σ H _ I h) fun v s1 ⟨x,H1,I1,r1,q1⟩=>?_) hs hw
 rw [h1]
 exact thn (hg pins s1 σ H1 x v _ I1 r1 q1) fun _ s2 q=>q
theorem ps_set {i:Nat} {x:Str} {e:Expr} {te:TE} {pos':Pos} (hN:X.N.Nodup) (hi:X.N[i]? = some x) (hx:Loc X.env.scope x) (he:PE X e te) (hs:swapsWith e (some (.Name x pos')) pos.line X.env=pure false:=by rfl) (hf:X.fn x=true∨X.env.scope.names.lookup x=some .local:=by first | exact .inl rfl | exact .inr rfl | assumption) :
  PS X (.Assign [.Name x pos'] e pos) (tAsg te (gName i)):=by
 intro pins s σ H D I h
 refine wpAny_Assign_Name (thn (he pins s σ H _ I h) fun v s1 ⟨y,H1,I1,r1,q1⟩=>?_) hs
 exact store_ok I1 hN hi hx r1 (fun s2 I2=>⟨_,H1,I2,q1⟩) hf
end
section
variable {X:Cx} {pos:Pos}
def tWhile (c:TT) (tb:TS):TS:=fun D σ H=>∃ W:Nat→St→Hp→Prop,(∃ m,W m σ H)∧∀ m σ H,W m σ H→
 c σ H fun b H1=>if b=true then ∃ N:St→Hp→Prop,(∀ σ' H',N σ' H'→∃ m',m' < m∧W m' σ' H')∧tb { D with nx:=N,ct:=N,bk:=D.nx } σ H1 else D.nx σ H1
theorem ps_while {c:Expr} {body:List Stmt} {tc:TT} {tb:TS} (hp:PassesOwn (model X.prog X.w) X.A X.env X.xe) (hc:PT X c tc) (hb:PSs X body tb):PS X (.While c body [] pos) (tWhile tc tb):=by
 intro pins s σ H D I h
 obtain ⟨W,⟨m0,w0⟩,turn⟩:=h
 refine wpAny_While (codeAny_whileLoop (fun n s'=>∃ σ' H',Inv X pins σ' H' s'∧W n σ' H') ?_ m0 ⟨σ,H,I,w0⟩)
 rintro n s1 ⟨σ1,H1,I1,w1⟩
 refine wpAny_passesOwn hp (thn (hc pins s1 σ1 H1 _ I1 (turn n σ1 H1 w1)) fun b s2 ⟨H2,I2,q2⟩=>?_)
 cases b with
 | true=>
  obtain ⟨N,hN,q2⟩:=q2
  rw [if_pos rfl]
  refine wpAny_passesOwn hp (thn (hb pins s2 σ1 H2 _ I2 q2) fun f s3 q3=>?_)
  cases f with
  | next=>
   obtain ⟨σ3,H3,I3,n3⟩:=q3
   obtain ⟨m',hm,w3⟩:=hN σ3 H3 n3
   exact ⟨m',hm,σ3,H3,I3,w3⟩
  | cont=>
   obtain ⟨σ3,H3,I3,n3⟩:=q3
   obtain ⟨m',hm,w3⟩:=hN σ3 H3 n3
   exact ⟨m',hm,σ3,H3,I3,w3⟩
  | brk=>exact q3
  | ret v=>exact q3
 | false=>
  rw [if_neg Bool.false_ne_true]
  exact wpAny_execs_nil ⟨σ1,H2,I2,q2⟩
end
structure It where
 go:Nat→Hp→Prop
 yld:Nat→Hp→V→Hp→Prop
 stop:Nat→Hp→Prop
def FpOk (X:Cx) (pins:List (Addr×Obj)) (H:Hp) (b:Addr):Prop:=
 H b=none∧b≠X.env.locals∧b∉X.fs∧(b∈X.ex∨X.s₀.heap.objs.size≤b)∧(∀ x c,X.env.cells.lookup x=some c→c≠b)∧∀ p∈X.pn++pins,p.1≠b
theorem Inv.fpOk {X:Cx} {pins:List (Addr×Obj)} {σ:St} {H H':Hp} {s:Shared} {b:Addr} (I:Inv X pins σ H s) (hb:s.heap.objs.size≤b) (hn:H' b=none):FpOk X pins H' b:=by
 refine ⟨hn,Nat.ne_of_gt (Nat.lt_of_lt_of_le I.lt hb),I.nofs hb,.inr (Nat.le_trans I.sz hb),fun x c e z=>?_,fun p hp z=>?_⟩
 ·obtain ⟨v,q⟩:=I.cell x c e
  exact absurd (Nat.lt_of_lt_of_le q.lt (by rw [z]; exact hb)) (Nat.lt_irrefl _)
 ·exact absurd (Nat.lt_of_lt_of_le (Heap.lt_size (I.pin p hp).1) (by rw [z]; exact hb)) (Nat.lt_irrefl _)
structure Turn (P:Program) (w:World) (K:W.Frag) (tg:Expr) (J:It) (fp:List Addr) (it:Addr) (tn:Nat→Heap→Prop):Prop where
 mem:it∈fp
 obj:∀ i h,tn i h→∀ b∈fp,∃ o,h.get? b=some o∧∀ v,o.data≠.cell v
 keep:∀ i h h',tn i h→(∀ b∈fp,∀ o,h.get? b=some o→h'.get? b=some o)→tn i h'
 item:∀ (X:Cx),X.prog=P→X.w=w→X.K=K→X.calm=true→∀ (i:Nat) (pins:List (Addr×Obj)) (s:Shared) (σ:St) (H:Hp) (E:Value→Shared→Prop),Inv X pins σ H s→(∀ b∈fp,FpOk X pins H b)→tn i s.heap→J.go i H→
  wpAny (model P w) X.A (pyNext (.ref it)) (fun r s1=>∃ u,r=some u∧
   wpAny (model P w) X.A (letOwnedTupleGo tg (.ref it) u) (fun _ s2=>∃ x H',Inv X pins σ H' s2∧RelV x u∧J.yld i H x H'∧tn (i+1) s2.heap∧∀ b∈fp,H' b=none) E s1) E s
 done:∀ (X:Cx),X.prog=P→X.w=w→X.K=K→X.calm=true→∀ (i:Nat) (pins:List (Addr×Obj)) (s:Shared) (σ:St) (H:Hp) (E:Value→Shared→Prop),Inv X pins σ H s→(∀ b∈fp,FpOk X pins H b)→tn i s.heap→J.stop i H→
  wpAny (model P w) X.A (pyNext (.ref it)) (fun r s1=>r=none∧Inv X pins σ H s1) E s
 self:∀ (A:Around) (i:Nat) (s:Shared) (Q:Value→Shared→Prop) (E:Value→Shared→Prop),tn i s.heap→Q (.ref it) s→wpAny (model P w) A (pyIter (.ref it)) Q E s
abbrev TI:=St→Hp→(It→Hp→Prop)→Prop
def PIE (X:Cx) (pins:List (Addr×Obj)) (σ:St) (tg:Expr) (R:It→Hp→Prop) (itv:Value) (s2:Shared):Prop:=
 ∃ (it:Addr) (fp:List Addr) (tn:Nat→Heap→Prop) (J:It) (H':Hp),itv=.ref it∧Inv X pins σ H' s2∧Turn X.prog X.w X.K tg J fp it tn∧tn 0 s2.heap∧(∀ b∈fp,FpOk X pins H' b)∧R J H'
def PI (X:Cx) (tg iter:Expr) (wi:TI):Prop:=
 ∀ (pins:List (Addr×Obj)) (s:Shared) (σ:St) (H:Hp) (R:It→Hp→Prop),Inv X pins σ H s→wi σ H R→
  wpAny (model X.prog X.w) X.A (eval iter X.env) (fun v s1=>wpAny (model X.prog X.w) X.A (pyIter v) (PIE X pins σ tg R) X.xe s1) X.xe s
theorem go_of {M : Model} {A : Around} {E : Value → Shared → Prop} {s : Shared} {tg : Expr} {it : Addr} {u : Value} {o : Obj} {n : String} {vs : Array Value} {Q : Unit → Shared → Prop} (ho : s.heap.get? it = some o) (hc : o.cls = .type n) (hd : o.data = .fields vs)
    (hn : ["enumerate", "zip", "dict_itemiterator", "dict_reverseitemiterator", "odict_iterator", "itertools.zip_longest", "itertools.pairwise"].contains n = false) (hQ : Q () s) : wpAny M A (letOwnedTupleGo tg (.ref it) u) Q E s := by
  unfold letOwnedTupleGo
  cases tg <;> first
    | exact wpAny_pure hQ
    | (cases u <;> first
        | exact wpAny_pure hQ
        | (refine wpAny_bind (wpAny_load ho ?_)
           rw [hc, hd]
           show wpAny M A (if (["enumerate", "zip", "dict_itemiterator", "dict_reverseitemiterator", "odict_iterator", "itertools.zip_longest", "itertools.pairwise"].contains n && vs[0]? == some (rawInt _)) = true then _ else _) Q E s
           rw [if_neg (by intro h; rw [hn, Bool.false_and] at h; cases h)]
           exact wpAny_pure hQ))
def Itl (K:W.Frag) (a:Addr):It:=
 ⟨fun i H=>∃ xs x,SqL K H a xs∧xs[i]? = some x,fun i H x H'=>H'=H∧∀ xs,SqL K H a xs→xs[i]? = some x,fun i H=>∃ xs,SqL K H a xs∧xs.length≤i⟩
def Itt (K:W.Frag) (a:Addr):It:=
 ⟨fun i H=>∃ xs x,SqT K H a xs∧xs[i]? = some x,fun i H x H'=>H'=H∧∀ xs,SqT K H a xs→xs[i]? = some x,fun i H=>∃ xs,SqT K H a xs∧xs.length≤i⟩
def Itr (lo:Int) (n:Nat):It:=⟨fun i _=>i < n,fun i H x H'=>H'=H∧x=.int (lo+i),fun i _=>n≤i⟩
theorem turn_list {P:Program} {w:World} {K:W.Frag} {tg:Expr} (a it:Addr):Turn P w K tg (Itl K a) [it] it (fun i h=>h.IsListIter it a i) where
 mem:=by simp
 obj:=fun i h st b hb=>by
  have e:b=it:=by simpa using hb
  subst e
  obtain ⟨o,e,c,d⟩:=st
  exact ⟨o,e,fun v z=>by rw [d] at z; cases z⟩
 keep:=fun i h h' st k=>st.at fun o e=>k it (by simp) o e
 item:=by
  intro X hP hw hK hc i pins s σ H E I hf st hg
  subst hP hw hK
  obtain ⟨xs,x,hq,hx⟩:=hg
  obtain ⟨its,rv,p,hz⟩:=I.list hq
  obtain ⟨u,hu,ru⟩:=rv.get hx
  obtain ⟨f0,f1,f2,f3,f4,f5⟩:=hf it (by simp)
  refine wpAny_pyNext_list_item st p.isList (x:=u) (by simpa using hu) fun h' st' sb=>?_
  have I1:Inv X pins σ H { s with heap:=h' }:=I.turned (t':=s.toks) (fun b o hb e=>(sb.2 b hb).trans e) f0 f1 f3 f4 f5
  obtain ⟨o,e,c,d⟩:=id st'
  exact ⟨u,rfl,go_of (s:={ s with heap:=h' }) e c d (by decide) ⟨x,H,I1,ru,⟨rfl,fun ys hy=>by rw [I.list_inj hy hq]; exact hx⟩,st',fun b hb=>(hf b hb).1⟩⟩
 done:=by
  intro X hP hw hK hc i pins s σ H E I hf st hg
  subst hP hw hK
  obtain ⟨xs,hq,hx⟩:=hg
  obtain ⟨its,rv,p,hz⟩:=I.list hq
  obtain ⟨f0,f1,f2,f3,f4,f5⟩:=hf it (by simp)
  have hl:=rv.length
  exact wpAny_pyNext_list_end (I.ok.hd hc) st p.isList (by simp; omega) fun h' eb=>⟨rfl,I.turned (t':=s.toks) (fun b o hb e=>eb b o hb e) f0 f1 f3 f4 f5⟩
 self:=fun _ _ _ _ _ st h=>wpAny_pyIter_listiter st h
theorem turn_tuple {P:Program} {w:World} {K:W.Frag} {tg:Expr} (a it:Addr):Turn P w K tg (Itt K a) [it] it (fun i h=>h.IsTupleIter it a i) where
 mem:=by simp
 obj:=fun i h st b hb=>by
  have e:b=it:=by simpa using hb
  subst e
  obtain ⟨o,e,c,d⟩:=st
  exact ⟨o,e,fun v z=>by rw [d] at z; cases z⟩
 keep:=fun i h h' st k=>st.at fun o e=>k it (by simp) o e
 item:=by
  intro X hP hw hK hc i pins s σ H E I hf st hg
  subst hP hw hK
  obtain ⟨xs,x,hq,hx⟩:=hg
  obtain ⟨its,rv,p,hz⟩:=I.tuple hq
  obtain ⟨u,hu,ru⟩:=rv.get hx
  obtain ⟨f0,f1,f2,f3,f4,f5⟩:=hf it (by simp)
  refine wpAny_pyNext_tuple_item st (show s.heap.IsTuple a its.toArray from p) (x:=u) (by simpa using hu) fun h' st' sb=>?_
  have I1:Inv X pins σ H { s with heap:=h' }:=I.turned (t':=s.toks) (fun b o hb e=>(sb.2 b hb).trans e) f0 f1 f3 f4 f5
  obtain ⟨o,e,c,d⟩:=id st'
  exact ⟨u,rfl,go_of (s:={ s with heap:=h' }) e c d (by decide) ⟨x,H,I1,ru,⟨rfl,fun ys hy=>by rw [I.tuple_inj hy hq]; exact hx⟩,st',fun b hb=>(hf b hb).1⟩⟩
 done:=by
  intro X hP hw hK hc i pins s σ H E I hf st hg
  subst hP hw hK
  obtain ⟨xs,hq,hx⟩:=hg
  obtain ⟨its,rv,p,hz⟩:=I.tuple hq
  obtain ⟨f0,f1,f2,f3,f4,f5⟩:=hf it (by simp)
  have hl:=rv.length
  exact wpAny_pyNext_tuple_end (I.ok.hd hc) st (show s.heap.IsTuple a its.toArray from p) (by simp; omega) fun h' eb=>⟨rfl,I.turned (t':=s.toks) (fun b o hb e=>eb b o hb e) f0 f1 f3 f4 f5⟩
 self:=fun _ _ _ _ _ st h=>wpAny_pyIter_tupleiter st h
theorem turn_range {P:Program} {w:World} {K:W.Frag} {tg:Expr} (it:Addr) (lo:Int) (n:Nat):Turn P w K tg (Itr lo n) [it] it (fun i h=>IsRangeIter h it (lo+(i:Nat)*1) ((n:Int)-(i:Nat)) 1) where
 mem:=by simp
 obj:=fun i h st b hb=>by
  have e:b=it:=by simpa using hb
  subst e
  exact ⟨_,st,fun v z=>by
   have z':Data.fields _=Data.cell v:=z
   cases z'⟩
 keep:=fun i h h' st k=>k it (by simp) _ st
 item:=by
  intro X hP hw hK hc i pins s σ H E I hf st hg
  subst hP hw hK
  obtain ⟨f0,f1,f2,f3,f4,f5⟩:=hf it (by simp)
  have W:=Walks.range (prog:=X.prog) (w:=X.w) (I.ok.hd hc) it lo 1 n
  refine W.item i s _ _ hg st fun v h' tk hv st' kk=>?_
  obtain ⟨t,rfl⟩:=hv
  have I1:Inv X pins σ H { s with heap:=h',toks:=tk }:=I.turned (fun b o hb e=>kk b o (by simpa using hb) e) f0 f1 f3 f4 f5
  refine ⟨_,rfl,go_of (s:={ s with heap:=h',toks:=tk }) (n:="range_iterator") st' rfl rfl (by decide) ⟨.int (lo+i),H,I1,⟨t,?_⟩,⟨rfl,rfl⟩,st',fun b hb=>(hf b hb).1⟩⟩
  rw [Int.mul_one]
 done:=by
  intro X hP hw hK hc i pins s σ H E I hf st hg
  subst hP hw hK
  obtain ⟨f0,f1,f2,f3,f4,f5⟩:=hf it (by simp)
  exact wpAny_pyNext_range_end (I.ok.hd hc) st (by have:n≤i:=hg; omega) fun h' eb=>⟨rfl,I.turned (t':=s.toks) (fun b o hb e=>eb b o hb e) f0 f1 f3 f4 f5⟩
 self:=fun _ _ _ _ _ st h=>wpAny_pyIter_rangeiter st h
end L2
namespace L2
open PySem PySem.Spec PyProof.Rows
section
variable {X:Cx} {tg:Expr}
def iList (K:W.Frag) (tl:TE):TI:=fun σ H R=>tl σ H fun x H1=>∃ a,x=.ref a∧(∃ xs,SqL K H1 a xs)∧R (Itl K a) H1
def iTup (K:W.Frag) (tl:TE):TI:=fun σ H R=>tl σ H fun x H1=>∃ a,x=.ref a∧(∃ xs,SqT K H1 a xs)∧R (Itt K a) H1
theorem pi_list {l:Expr} {tl:TE} (hl:PE X l tl):PI X tg l (iList X.K tl):=by
 intro pins s σ H R I h
 refine thn (hl pins s σ H _ I h) fun v s1 ⟨x,H1,I1,r1,q1⟩=>?_
 obtain ⟨a,e,⟨xs,hq⟩,q⟩:=q1
 subst e
 cases r1
 obtain ⟨its,rv,p,hz⟩:=I1.list hq
 refine wpAny_pyIter_list p.isList ?_
 refine ⟨s1.heap.objs.size,[s1.heap.objs.size],_,_,H1,rfl,I1.kept (t':=s1.toks) fun b o e=>Heap.get?_push_of_some _ e,turn_list a _,⟨_,Heap.get?_push_size _ rfl,rfl,rfl⟩,fun b hb=>?_,q⟩
 have e:b=s1.heap.objs.size:=by simpa using hb
 subst e
 exact I1.fpOk (Nat.le_refl _) (I1.hok.fresh (Nat.le_refl _))
theorem pi_tup {l:Expr} {tl:TE} (hl:PE X l tl):PI X tg l (iTup X.K tl):=by
 intro pins s σ H R I h
 refine thn (hl pins s σ H _ I h) fun v s1 ⟨x,H1,I1,r1,q1⟩=>?_
 obtain ⟨a,e,⟨xs,hq⟩,q⟩:=q1
 subst e
 cases r1
 obtain ⟨its,rv,p,hz⟩:=I1.tuple hq
 refine wpAny_pyIter_tuple (show s1.heap.IsTuple a its.toArray from p) ?_
 refine ⟨s1.heap.objs.size,[s1.heap.objs.size],_,_,H1,rfl,I1.kept (t':=s1.toks) fun b o e=>Heap.get?_push_of_some _ e,turn_tuple a _,⟨_,Heap.get?_push_size _ rfl,rfl,rfl⟩,fun b hb=>?_,q⟩
 have e:b=s1.heap.objs.size:=by simpa using hb
 subst e
 exact I1.fpOk (Nat.le_refl _) (I1.hok.fresh (Nat.le_refl _))
theorem range_it {pins:List (Addr×Obj)} {σ:St} {H:Hp} {s:Shared} {R:It→Hp→Prop} {E:Value→Shared→Prop} {lo hi:Int} {t u v:Tok} {tk:Nat} (I:Inv X pins σ H s) (h1:-(2 ^ 62)≤lo) (h2:lo < 2 ^ 62) (h3:-(2 ^ 62)≤hi) (h4:hi < 2 ^ 62)
  (q:R (Itr lo (hi-lo).toNat) H):wpAny (model X.prog X.w) X.A (pyIter (.ref s.heap.objs.size)) (PIE X pins σ tg R) E { s with heap:=s.heap.push { cls:=.type "range",data:=.fields #[.int lo t,.int hi u,.int 1 v] },toks:=tk }:=by
 refine wpAny_pyIter_range (IsRange.new ..) (small_one h1 h2 h3 h4) ?_
 have I1:Inv X pins σ H { s with heap:=s.heap.push { cls:=.type "range",data:=.fields #[.int lo t,.int hi u,.int 1 v] },toks:=tk }:=I.kept fun b o e=>Heap.get?_push_of_some _ e
 refine ⟨(s.heap.push { cls:=.type "range",data:=.fields #[.int lo t,.int hi u,.int 1 v] }).objs.size,[(s.heap.push { cls:=.type "range",data:=.fields #[.int lo t,.int hi u,.int 1 v] }).objs.size],_,_,H,rfl,
  I1.kept (t':=tk) fun b o e=>Heap.get?_push_of_some _ e,turn_range _ lo (hi-lo).toNat,?_,fun b hb=>?_,q⟩
 ·have e1:lo+((0:Nat):Int)*1=lo:=by simp
  have e2:(((hi-lo).toNat:Nat):Int)-((0:Nat):Int)=Builtin.Range.rangeSize lo hi 1:=by rw [rangeSize_one]; split <;> omega
  show IsRangeIter _ _ (lo+((0:Nat):Int)*1) ((((hi-lo).toNat:Nat):Int)-((0:Nat):Int)) 1
  rw [e1,e2]
  exact Heap.get?_push_size _ rfl
 ·have e:b=(s.heap.push { cls:=.type "range",data:=.fields #[.int lo t,.int hi u,.int 1 v] }).objs.size:=by simpa using hb
  subst e
  exact I1.fpOk (Nat.le_refl _) (I1.hok.fresh (Nat.le_refl _))
def iRng1 (ta:TA):TI:=fun σ H R=>ta σ H fun vs H1=>∃ j:Int,vs=[.int j]∧-(2 ^ 62)≤j∧j < 2 ^ 62∧R (Itr 0 j.toNat) H1
theorem pi_range1 {a:Expr} {ta:TA} {p pos:Pos} (hg:Gl X "range") (hm:X.mg "range"=none) (ha:PA X [a] ta) (hs:starEach [a] X.env=[(false,eval a X.env)]:=by rfl):PI X tg (.Call (.Name "range" p) [a] [] pos) (iRng1 ta):=by
 intro pins s σ H R I h
 refine Call_ (ld_blt I hg hm boot_range (PyProof.Rows.callWith_type1 (thn (ha pos pins s σ H _ I h) fun us s1 ⟨vs,H1,I1,r1,q1⟩=>?_) hs rfl))
 obtain ⟨j,e,q1,q2,q⟩:=q1
 subst e
 cases r1 with
 | cons r rr=>
  cases rr
  obtain ⟨t,rfl⟩:=r
  exact call_range_1 (range_it I1 (by omega) (by omega) q1 q2 (by simpa using q))
def tFor (wi:TI) (g:TG) (tb:TS):TS:=fun D σ H=>wi σ H fun J H1=>∃ W:Nat→Nat→St→Hp→Prop,(∃ m,W 0 m σ H1)∧∀ i m σ H,W i m σ H→
 (J.stop i H∧D.nx σ H)∨(J.go i H∧∃ N:St→Hp→Prop,(∀ σ' H',N σ' H'→∃ m',m' < m∧W (i+1) m' σ' H')∧∀ x H',J.yld i H x H'→g x σ H' fun σ2 H2=>tb { D with nx:=N,ct:=N,bk:=D.nx } σ2 H2)
def pinsAt (fp:List Addr) (h:Heap):List (Addr×Obj):=fp.filterMap fun b=>(h.get? b).map fun o=>(b,o)
theorem mem_pinsAt {fp:List Addr} {h:Heap} {b:Addr} {o:Obj} (hb:b∈fp) (e:h.get? b=some o):(b,o)∈pinsAt fp h:=List.mem_filterMap.mpr ⟨b,hb,by rw [e]; rfl⟩
theorem of_pinsAt {fp:List Addr} {h:Heap} {p:Addr×Obj} (hp:p∈pinsAt fp h):p.1∈fp∧h.get? p.1=some p.2:=by
 obtain ⟨b,hb,e⟩:=List.mem_filterMap.mp hp
 cases q:h.get? b with
 | none=>rw [q] at e; cases e
 | some o=>
  rw [q] at e
  have e':(b,o)=p:=Option.some.inj e
  subst e'
  exact ⟨hb,q⟩
theorem Inv.pinned {pins:List (Addr×Obj)} {σ:St} {H:Hp} {s:Shared} {fp:List Addr} (I:Inv X pins σ H s) (hf:∀ b∈fp,FpOk X pins H b) (ho:∀ b∈fp,∃ o,s.heap.get? b=some o∧∀ v,o.data≠.cell v):Inv X (pins++pinsAt fp s.heap) σ H s:=
 I.pins_of fun p hp=>(List.mem_append.mp hp).elim (fun z=>I.pin p (List.mem_append_right _ z)) fun z=>by
  obtain ⟨hb,e⟩:=of_pinsAt z
  obtain ⟨f0,f1,f2,_⟩:=hf p.1 hb
  obtain ⟨o,e',d⟩:=ho p.1 hb
  rw [e] at e'; cases e'
  exact ⟨e,f0,f1,f2,d⟩
theorem Inv.unpinned {pins pl:List (Addr×Obj)} {σ:St} {H:Hp} {s:Shared} (I:Inv X (pins++pl) σ H s):Inv X pins σ H s:=I.pins_of fun p hp=>I.pin p (List.mem_append_right _ (List.mem_append_left _ hp))
theorem ps_for {iter:Expr} {body:List Stmt} {wi:TI} {g:TG} {tb:TS} {pos:Pos} (hp:PassesOwn (model X.prog X.w) X.A X.env X.xe) (hc:X.calm=true) (hi:PI X tg iter wi) (hg:PG X tg g) (hb:PSs X body tb)
  (hs:∀ x,foldedSetIterable iter X.env x=pure x:=by intro _; rfl):PS X (.For tg iter body [] pos) (tFor wi g tb):=by
 intro pins s σ H D I h
 refine wpAny_For (thn (hi pins s σ H _ I h) fun v s1 h1=>thn h1 fun itv s2 h2=>?_) hs
 obtain ⟨it,fp,tn,J,H2,e,I2,T,st2,f2,W,⟨m0,w0⟩,turn⟩:=h2
 subst e
 -- what stays true of the iterator's objects through the loop
 have stat:∀ {H':Hp},(∀ b∈fp,H' b=none)→∀ b∈fp,FpOk X pins H' b:=fun hn b hb=>⟨hn b hb,(f2 b hb).2⟩
 refine codeAny_forLoop_any (fun n s'=>∃ i σ' H',Inv X pins σ' H' s'∧tn i s'.heap∧(∀ b∈fp,H' b=none)∧W i n σ' H') ?_ m0 ⟨0,σ,H2,I2,st2,fun b hb=>(f2 b hb).1,w0⟩
 rintro n s3 ⟨i,σ3,H3,I3,st3,fr3,w3⟩
 rcases turn i n σ3 H3 w3 with ⟨stop,qn⟩ | ⟨go,N,hN,step⟩
 ·refine wpAny_passesOwn hp (thn (T.done X rfl rfl rfl hc i pins s3 σ3 H3 X.xe I3 (stat fr3) st3 stop) fun r s4 ⟨hr,I4⟩=>?_)
  subst hr
  exact wpAny_execs_nil ⟨σ3,H3,I4,qn⟩
 ·refine wpAny_passesOwn hp (thn (T.item X rfl rfl rfl hc i pins s3 σ3 H3 X.xe I3 (stat fr3) st3 go) fun r s4 ⟨u,hr,h4⟩=>?_)
  subst hr
  refine wpAny_passesOwn hp (thn h4 fun _ s5 ⟨x,H5,I5,r5,y5,st5,fr5⟩=>?_)
  have I5':=I5.pinned (stat fr5) (T.obj _ _ st5)
  refine wpAny_passesOwn hp (thn (hg _ s5 σ3 H5 x u _ I5' r5 (step x H5 y5)) fun _ s6 ⟨σ6,H6,I6,q6⟩=>?_)
  refine wpAny_passesOwn hp (thn (hb _ s6 σ6 H6 _ I6 q6) fun f s7 q7=>?_)
  have again:∀ {σ7:St} {H7:Hp},Inv X (pins++pinsAt fp s5.heap) σ7 H7 s7→N σ7 H7→∃ m,m < n∧∃ i σ' H',Inv X pins σ' H' s7∧tn i s7.heap∧(∀ b∈fp,H' b=none)∧W i m σ' H':=fun {σ7 H7} I7 n7=>by
   obtain ⟨m',hm,w7⟩:=hN σ7 H7 n7
   refine ⟨m',hm,i+1,σ7,H7,I7.unpinned,T.keep _ _ _ st5 fun b hb o e=>(I7.pin (b,o) (List.mem_append_right _ (List.mem_append_right _ (mem_pinsAt hb e)))).1,fun b hb=>?_,w7⟩
   obtain ⟨o,e,d⟩:=T.obj _ _ st5 b hb
   exact (I7.pin (b,o) (List.mem_append_right _ (List.mem_append_right _ (mem_pinsAt hb e)))).2.1
  cases f with
  | next=>obtain ⟨σ7,H7,I7,n7⟩:=q7; exact again I7 n7
  | cont=>obtain ⟨σ7,H7,I7,n7⟩:=q7; exact again I7 n7
  | brk=>obtain ⟨σ7,H7,I7,q7⟩:=q7; exact ⟨σ7,H7,I7.unpinned,q7⟩
  | ret v=>obtain ⟨x7,σ7,H7,I7,r7,q7⟩:=q7; exact ⟨x7,σ7,H7,I7.unpinned,r7,q7⟩
end
end L2
namespace L2
open PySem PySem.Spec PyProof.Rows
abbrev R2:=V→V→Hp→VK→Prop
def OpR (X:Cx) (f:Value→Value→Sem Value) (r:R2):Prop:=
 ∀ (pins:List (Addr×Obj)) (s:Shared) (σ:St) (H:Hp) (x y:V) (v u:Value) (Q:VK),Inv X pins σ H s→RelV x v→RelV y u→r x y H Q→
  wpAny (model X.prog X.w) X.A (f v u) (EP X pins σ Q) X.xe s
def UnR (X:Cx) (f:Value→Sem Value) (r:V→Hp→VK→Prop):Prop:=
 ∀ (pins:List (Addr×Obj)) (s:Shared) (σ:St) (H:Hp) (x:V) (v:Value) (Q:VK),Inv X pins σ H s→RelV x v→r x H Q→
  wpAny (model X.prog X.w) X.A (f v) (EP X pins σ Q) X.xe s
def CallR (X:Cx) (f:Value) (r:List V→Hp→VK→Prop):Prop:=
 ∀ (pins:List (Addr×Obj)) (s:Shared) (σ:St) (H:Hp) (xs:List V) (us:List Value) (Q:VK),Inv X pins σ H s→Vals xs us→r xs H Q→
  wpAny (model X.prog X.w) X.A (call f us) (EP X pins σ Q) X.xe s
def tOp (r:R2) (ta tb:TE):TE:=fun σ H Q=>ta σ H fun x H1=>tb σ H1 fun y H2=>r x y H2 Q
def tUn (r:V→Hp→VK→Prop) (ta:TE):TE:=fun σ H Q=>ta σ H fun x H1=>r x H1 Q
def rI (C:Int→Int→Prop) (g:Int→Int→V):R2:=fun x y H Q=>∃ i j,x=.int i∧y=.int j∧C i j∧Q (g i j) H
def rI0 (g:Int→Int→V):R2:=fun x y H Q=>∃ i j,x=.int i∧y=.int j∧Q (g i j) H
def rU (g:Int→V):V→Hp→VK→Prop:=fun x H Q=>∃ i,x=.int i∧Q (g i) H
section
variable {X:Cx} {a b c:Expr} {ta tb tc:TE} {pos:Pos}
theorem binT (ha:PE X a ta) (hb:PE X b tb) {pins:List (Addr×Obj)} {s:Shared} {σ:St} {H:Hp} {R:V→V→Hp→Prop} (I:Inv X pins σ H s)
  (h:ta σ H fun x H1=>tb σ H1 fun y H2=>R x y H2) {Q:Value→Shared→Prop} {f:Value→Value→Sem Value}
  (hf:∀ v u s2 x y H2,Inv X pins σ H2 s2→RelV x v→RelV y u→R x y H2→wpAny (model X.prog X.w) X.A (f v u) Q X.xe s2) :
  wpAny (model X.prog X.w) X.A (eval a X.env) (fun v s₁=>wpAny (model X.prog X.w) X.A (eval b X.env) (fun u s₂=>wpAny (model X.prog X.w) X.A (f v u) Q X.xe s₂) X.xe s₁) X.xe s:=by
 refine thn (ha pins s σ H _ I h) fun v s1 ⟨x,H1,I1,r1,q1⟩=>?_
 refine thn (hb pins s1 σ H1 _ I1 q1) fun u s2 ⟨y,H2,I2,r2,q2⟩=>?_
 exact hf v u s2 x y H2 I2 r1 r2 q2
theorem pe_op {op:Operator} {r:R2} (ho:OpR X (binaryOp op) r) (ha:PE X a ta) (hb:PE X b tb):PE X (.BinOp a op b pos) (tOp r ta tb):=by
 intro pins s σ H Q I h
 exact wpAny_BinOp (binT ha hb I h fun v u s2 x y H2 I2 rx ry q=>ho pins s2 σ H2 x y v u Q I2 rx ry q)
theorem pe_un {op:UnaryOp} {r:V→Hp→VK→Prop} (ho:UnR X (unaryOp op) r) (ha:PE X a ta):PE X (.UnaryOp op a pos) (tUn r ta):=by
 intro pins s σ H Q I h
 exact UnaryOp_ (thn (ha pins s σ H _ I h) fun v s1 ⟨x,H1,I1,r1,q1⟩=>ho pins s1 σ H1 x v Q I1 r1 q1)
theorem opI {f:Value→Value→Sem Value} {C:Int→Int→Prop} {g:Int→Int→Int}
  (rule:∀ (i j:Int) (t u:Tok) (s:Shared) (Q:Value→Shared→Prop) (E:Value→Shared→Prop),C i j→Q (.int (g i j) s.toks) { s with toks:=s.toks+1 }→wpAny (model X.prog X.w) X.A (f (.int i t) (.int j u)) Q E s) :
  OpR X f (rI C fun i j=>.int (g i j)):=by
 intro pins s σ H x y v u Q I rx ry h
 obtain ⟨i,j,rfl,rfl,hc,q⟩:=h
 obtain ⟨t,rfl⟩:=rx
 obtain ⟨t',rfl⟩:=ry
 exact rule i j t t' s _ _ hc ⟨.int (g i j),H,I.tok _,⟨_,rfl⟩,q⟩
theorem opI0 {f:Value→Value→Sem Value} {g:Int→Int→Int}
  (rule:∀ (i j:Int) (t u:Tok) (s:Shared) (Q:Value→Shared→Prop) (E:Value→Shared→Prop),Q (.int (g i j) s.toks) { s with toks:=s.toks+1 }→wpAny (model X.prog X.w) X.A (f (.int i t) (.int j u)) Q E s) :
  OpR X f (rI0 fun i j=>.int (g i j)):=by
 intro pins s σ H x y v u Q I rx ry h
 obtain ⟨i,j,rfl,rfl,q⟩:=h
 obtain ⟨t,rfl⟩:=rx
 obtain ⟨t',rfl⟩:=ry
 exact rule i j t t' s _ _ ⟨.int (g i j),H,I.tok _,⟨_,rfl⟩,q⟩
theorem opB0 {f:Value→Value→Sem Value} {g:Int→Int→Bool}
  (rule:∀ (i j:Int) (t u:Tok) (s:Shared) (Q:Value→Shared→Prop) (E:Value→Shared→Prop),Q (.bool (g i j)) s→wpAny (model X.prog X.w) X.A (f (.int i t) (.int j u)) Q E s) :
  OpR X f (rI0 fun i j=>.bl (g i j)):=by
 intro pins s σ H x y v u Q I rx ry h
 obtain ⟨i,j,rfl,rfl,q⟩:=h
 obtain ⟨t,rfl⟩:=rx
 obtain ⟨t',rfl⟩:=ry
 exact rule i j t t' s _ _ ⟨.bl (g i j),H,I,rfl,q⟩
def CPow (i j:Int):Prop:=0≤j∧j≤1000000∧i.natAbs < 2 ^ 64
def CMul (i j:Int):Prop:=(-(2 ^ 64) < i∧i < 2 ^ 64)∨(-(2 ^ 64) < j∧j < 2 ^ 64)
theorem CMul.ok {i j:Int} (h:CMul i j):IntMulOk i j:=by
 rcases h with ⟨h1,h2⟩ | ⟨h1,h2⟩
 ·exact .of_left (intBits_le_64 h1 h2)
 ·exact .of_right (intBits_le_64 h1 h2)
theorem two_pow_nn (k:Nat):(0:Int)≤2 ^ k:=by
 rw [two_pow_cast]
 exact Int.natCast_nonneg _
theorem op_add:OpR X (binaryOp .Add) (rI0 fun i j=>.int (i+j)):=opI0 fun _ _ _ _ _ _ _ q=>add_int q
theorem op_sub:OpR X (binaryOp .Sub) (rI0 fun i j=>.int (i-j)):=opI0 fun _ _ _ _ _ _ _ q=>sub_int q
theorem op_mul:OpR X (binaryOp .Mult) (rI CMul fun i j=>.int (i*j)):=opI fun _ _ _ _ _ _ _ hc q=>mul_int q hc.ok
theorem op_mod:OpR X (binaryOp .Mod) (rI (fun _ j=>0 < j) fun i j=>.int (i%j)):=opI fun i j _ _ _ _ _ hc q=>by
 have h1:(0:Int) < j:=hc
 exact mod_int' (by omega) (by rw [Int.fmod_eq_emod_of_nonneg i (by omega)]; exact q)
theorem op_shl:OpR X (binaryOp .LShift) (rI CPow fun i j=>.int (i*2 ^ j.toNat)):=opI fun _ _ _ _ _ _ _ hc q=>lshift_int_small hc.1 hc.2.1 hc.2.2 q
theorem op_shr:OpR X (binaryOp .RShift) (rI (fun _ j=>0≤j) fun i j=>.int (i / 2 ^ j.toNat)):=opI fun i j _ _ _ _ _ hc q=>
 rshift_int hc (by rw [Int.fdiv_eq_ediv_of_nonneg i (two_pow_nn _)]; exact q)
theorem op_and:OpR X (binaryOp .BitAnd) (rI0 fun i j=>.int (Builtin.bitAnd i j)):=opI0 fun _ _ _ _ _ _ _ q=>and_int q
theorem op_or:OpR X (binaryOp .BitOr) (rI0 fun i j=>.int (Builtin.bitOr i j)):=opI0 fun _ _ _ _ _ _ _ q=>or_int q
theorem unI {f:Value→Sem Value} {g:Int→Int}
  (rule:∀ (i:Int) (t:Tok) (s:Shared) (Q:Value→Shared→Prop) (E:Value→Shared→Prop),Q (.int (g i) s.toks) { s with toks:=s.toks+1 }→wpAny (model X.prog X.w) X.A (f (.int i t)) Q E s) :
  UnR X f (rU fun i=>.int (g i)):=by
 intro pins s σ H x v Q I rx h
 obtain ⟨i,rfl,q⟩:=h
 obtain ⟨t,rfl⟩:=rx
 exact rule i t s _ _ ⟨.int (g i),H,I.tok _,⟨_,rfl⟩,q⟩
theorem un_neg:UnR X (unaryOp .USub) (rU fun i=>.int (-i)):=unI fun _ _ _ _ _ q=>neg_int q
end
section
variable {X:Cx} {a b c:Expr} {ta tb tc:TE} {pos:Pos}
theorem fin_bl {pins:List (Addr×Obj)} {σ:St} {H:Hp} {s:Shared} {Q:VK} {k k':Bool} (I:Inv X pins σ H s) (q:Q (.bl k) H) (e:k=k'):EP X pins σ Q (.bool k') s:=by
 subst e
 exact ⟨.bl k,H,I,rfl,q⟩
theorem op_lt:OpR X (compareOp .Lt) (rI0 fun i j=>.bl (decide (i < j))):=opB0 fun _ _ _ _ _ _ _ q=>lt_int q
theorem op_le:OpR X (compareOp .LtE) (rI0 fun i j=>.bl (decide (i≤j))):=opB0 fun _ _ _ _ _ _ _ q=>le_int q
theorem op_gt:OpR X (compareOp .Gt) (rI0 fun i j=>.bl (decide (j < i))):=opB0 fun _ _ _ _ _ _ _ q=>gt_int q
theorem op_ge:OpR X (compareOp .GtE) (rI0 fun i j=>.bl (decide (j≤i))):=opB0 fun _ _ _ _ _ _ _ q=>ge_int q
theorem op_in_str:OpR X (compareOp .In) (fun x y H Q=>∃ i j,x=.str i∧y=.str j∧Q (.bl (!(Builtin.Str.occurrences j i 0 j.length 1).isEmpty)) H):=by
 intro pins s σ H x y v u Q I rx ry h
 obtain ⟨i,j,rfl,rfl,q⟩:=h
 obtain ⟨t,rfl⟩:=rx
 obtain ⟨t',rfl⟩:=ry
 exact in_str (fin_bl I q rfl)
theorem OpR.or {f:Value→Value→Sem Value} {r r':R2} (h:OpR X f r) (h':OpR X f r'):OpR X f (fun x y H Q=>r x y H Q∨r' x y H Q):=by
 intro pins s σ H x y v u Q I rx ry q
 rcases q with q | q
 ·exact h pins s σ H x y v u Q I rx ry q
 ·exact h' pins s σ H x y v u Q I rx ry q
theorem nomark (b:Expr) {op:CmpOp} (h:op≠.In:=by decide) (h2:op≠.NotIn:=by decide):behindInMarks op b=false:=by
 have e1:(op==CmpOp.In)=false:=by cases op <;> first | rfl | exact absurd rfl h
 have e2:(op==CmpOp.NotIn)=false:=by cases op <;> first | rfl | exact absurd rfl h2
 cases b <;> simp [behindInMarks,e1,e2]
theorem pe_cmpR {op:CmpOp} {r:R2} (ho:OpR X (compareOp op) r) (ha:PE X a ta) (hb:PE X b tb) (hm:behindInMarks op b=false):PE X (.Compare a [op] [b] pos) (tOp r ta tb):=by
 intro pins s σ H Q I h
 exact wpAny_Compare1 (binT ha hb I h fun v u s2 x y H2 I2 rx ry q=>ho pins s2 σ H2 x y v u Q I2 rx ry q) hm
def tTest (t:TE):TT:=fun σ H Q=>t σ H fun x H'=>∃ k,x=.bl k∧Q k H'
theorem pt_cmpR {op:CmpOp} {r:R2} (ho:OpR X (compareOp op) r) (ha:PE X a ta) (hb:PE X b tb) (hm:behindInMarks op b=false):PT X (.Compare a [op] [b] pos) (tTest (tOp r ta tb)):=by
 intro pins s σ H Q I h
 refine wpAny_isTrue_Compare1 (thn (ha pins s σ H _ I h) fun v s1 ⟨x,H1,I1,r1,q1⟩=>thn (hb pins s1 σ H1 _ I1 q1) fun u s2 ⟨y,H2,I2,r2,q2⟩=>
  thn (ho pins s2 σ H2 x y v u _ I2 r1 r2 q2) fun c s3 ⟨z,H3,I3,r3,k,e,q3⟩=>?_) hm
 subst e
 cases r3
 exact wpAny_truthy_bool ⟨H3,I3,q3⟩
theorem line63:(sizeLine:Nat) < 2 ^ 63:=by rw [sizeLine_eq]; decide
theorem op_add_str:OpR X (binaryOp .Add) (fun x y H Q=>∃ i j,x=.str i∧y=.str j∧i.length+j.length≤sizeLine∧Q (.str (i++j)) H):=by
 intro pins s σ H x y v u Q I rx ry h
 obtain ⟨i,j,rfl,rfl,hz,q⟩:=h
 obtain ⟨t,rfl⟩:=rx
 obtain ⟨t',rfl⟩:=ry
 exact add_str (fun t' tk=>⟨.str (i++j),H,I.tok _,⟨_,rfl⟩,q⟩) hz
theorem vals1 {x:V} {us:List Value} (r:Vals [x] us):∃ u,us=[u]∧RelV x u:=by
 cases r with
 | cons r1 r2=>cases r2; exact ⟨_,rfl,r1⟩
theorem vals2 {x y:V} {us:List Value} (r:Vals [x,y] us):∃ u w',us=[u,w']∧RelV x u∧RelV y w':=by
 cases r with
 | cons r1 r2=>
  cases r2 with
  | cons r3 r4=>cases r4; exact ⟨_,_,rfl,r1,r3⟩
theorem call_max2 (hc:X.calm=true):CallR X (.builtin "max") (fun xs H Q=>∃ i j,xs=[.int i,.int j]∧Q (.int (if j > i then j else i)) H):=by
 intro pins s σ H xs us Q I r h
 obtain ⟨i,j,rfl,q⟩:=h
 obtain ⟨u,w',rfl,⟨t,rfl⟩,⟨t',rfl⟩⟩:=vals2 r
 refine max_two_ints (I.ok.hd hc) fun h' tk k=>⟨_,H,I.kept k,?_,q⟩
 by_cases hj:j > i
 ·rw [if_pos hj,if_pos hj]; exact ⟨_,rfl⟩
 ·rw [if_neg hj,if_neg hj]; exact ⟨_,rfl⟩
theorem call_min2 (hc:X.calm=true):CallR X (.builtin "min") (fun xs H Q=>∃ i j,xs=[.int i,.int j]∧Q (.int (if j < i then j else i)) H):=by
 intro pins s σ H xs us Q I r h
 obtain ⟨i,j,rfl,q⟩:=h
 obtain ⟨u,w',rfl,⟨t,rfl⟩,⟨t',rfl⟩⟩:=vals2 r
 refine min_two_ints (I.ok.hd hc) fun h' tk k=>⟨_,H,I.kept k,?_,q⟩
 by_cases hj:j < i
 ·rw [if_pos hj,if_pos hj]; exact ⟨_,rfl⟩
 ·rw [if_neg hj,if_neg hj]; exact ⟨_,rfl⟩
def LenV (K:W.Frag) (x:V) (H:Hp) (n:Nat):Prop:=
 match x with
 | .str y=>y.length≤sizeLine∧n=y.length
 | .byt y=>y.size≤sizeLine∧n=y.size
 | .ref p=>(∃ xs,SqL K H p xs∧n=xs.length)∨∃ xs,SqT K H p xs∧n=xs.length
 | _=>False
theorem call_len:CallR X (.builtin "len") (fun xs H Q=>∃ x n,xs=[x]∧LenV X.K x H n∧Q (.int n) H):=by
 intro pins s σ H xs us Q I r h
 obtain ⟨x,n,rfl,e,q⟩:=h
 obtain ⟨u,rfl,rx⟩:=vals1 r
 have hl:=line63
 have hs:sizeLine=16777216:=sizeLine_eq
 cases x with
 | str y=>
  obtain ⟨t,rfl⟩:=rx
  obtain ⟨hy,e'⟩:y.length≤sizeLine∧n=y.length:=e
  subst e'
  exact len_str (by omega) ⟨.int _,H,I.tok _,⟨_,rfl⟩,q⟩
 | byt y=>
  obtain ⟨t,rfl⟩:=rx
  obtain ⟨hy,e'⟩:y.size≤sizeLine∧n=y.size:=e
  subst e'
  exact W.len_bytes (by omega) ⟨.int _,H,I.tok _,⟨_,rfl⟩,q⟩
 | ref p=>
  cases rx
  have e':(∃ xs,SqL X.K H p xs∧n=xs.length)∨∃ xs,SqT X.K H p xs∧n=xs.length:=e
  rcases e' with ⟨xs,hx,e'⟩ | ⟨xs,hx,e'⟩
  ·subst e'
   obtain ⟨its,r',pl,hz⟩:=I.list hx
   have hlen:=r'.length
   exact Calls.call_len_list pl.isList (by simp only [List.size_toArray]; omega) ⟨.int xs.length,H,I.tok _,⟨_,by simp only [List.size_toArray]; rw [hlen]⟩,q⟩
  ·subst e'
   obtain ⟨its,r',pl,hz⟩:=I.tuple hx
   have hlen:=r'.length
   exact len_tuple pl (by simp only [List.size_toArray]; omega) ⟨.int xs.length,H,I.tok _,⟨_,by simp only [List.size_toArray]; rw [hlen]⟩,q⟩
 | _=>exact (show False from e).elim
end
end L2
namespace L2
open PySem PySem.Spec PyProof.Rows
structure ObjM (h:Heap) (x dx C:Addr) (mA:Str→Option Value):Prop where
 obj:h.get? x=some (W.instObj C dx)
 ns:h.Ns1 dx mA
 ne:dx≠x
theorem lookIn_ns {h:Heap} {dx:Addr} {mA:Str→Option Value} (n:h.Ns1 dx mA):∃ od,h.get? dx=some od∧∀ name,W.lookIn name od=some (mA name):=by
 obtain ⟨o,es,ep,ho,hd,hk,_,hm⟩:=n
 refine ⟨o,ho,fun name=>?_⟩
 have e:=hm name
 unfold nsFind findBy at e
 rw [← Array.find?_toList] at e
 unfold W.lookIn
 rw [hd]
 dsimp only
 split
 ·rename_i y q
  rw [q] at e
  exact congrArg some e
 ·rename_i q
  rw [q] at e
  have a:es.toList.any (·.refKey)=false:=by
   rw [List.any_eq_false]
   intro y hy
   obtain ⟨z,t,hkey⟩:=hk y (Array.mem_toList_iff.mp hy)
   simp [DictEntry.refKey,hkey]
  have a':¬ es.toList.any (·.refKey)=true:=by rw [a]; exact Bool.false_ne_true
  rw [if_neg a']
  exact congrArg some e
theorem ObjM.look {h:Heap} {x dx C:Addr} {mA:Str→Option Value} (I:ObjM h x dx C mA):∃ od,W.InstAt h x (W.instObj C dx) C (some od)∧∀ name,W.lookIn name od=some (mA name):=
 let ⟨od,ho,hl⟩:=lookIn_ns I.ns
 ⟨od,⟨I.obj,rfl,rfl,ho⟩,hl⟩
section
variable {prog:Program} {w:World} {A:Around} {E:Value→Shared→Prop} {s:Shared} {K:W.Frag} {x dx C f:Addr} {mA:Str→Option Value} {name:Str} {v:Value}
theorem get_map {expr:Bool} {Q:Value→Shared→Prop} (X:K.In s.heap) (I:ObjM s.heap x dx C mA) (hg:W.plainGet K C name=true) (hh:W.hasDictIn K C=true)
  (ha:W.findIn K (.ref C) name=some none) (hv:mA name=some v) (hv':W.handedIn v=true) (h:Q v { s with toks:=s.toks+1 }) :
  wpAny (model prog w) A (getAttr (.ref x) name expr) Q E s:=by
 obtain ⟨od,J,hl⟩:=I.look
 exact W.get_value X J (W.plainGet_of hg).1 (W.findObj_own hh ha rfl (by rw [hl,hv])) hv' h
theorem get_meth {pl:Sem Bool} {Q:Value×List Value→Shared→Prop} (X:K.In s.heap) (I:ObjM s.heap x dx C mA) (hg:W.plainGet K C name=true)
  (hf:W.findIn K (.ref C) name=some (some (.ref f))) (ht:W.isFn K (.ref f)=true) (hv:mA name=none) (h:Q (.ref f,[.ref x]) s) :
  wpAny (model prog w) A (getMethod (.ref x) name pl) Q E s:=by
 obtain ⟨od,J,hl⟩:=I.look
 exact W.method_fn X J (W.plainGet_of hg).1 (W.plainGet_of hg).2 hf (beq_iff_eq.mp ht) (by show (W.lookIn name od).map (·.isSome)=some false; rw [hl,hv]; rfl) h
theorem set_map {ns:List Str} {Q:Unit→Shared→Prop} (X:K.In s.heap) (I:ObjM s.heap x dx C mA)
  (hs:W.findIn K (.ref C) "__setattr__"=some (some (.builtin "object.__setattr__"))) (hp:W.plainOver K C=true) (ht:W.takerIn K C name=some none) (hh:W.hasDictIn K C=true)
  (hw:PySem.Within mA ns) (hsz:ns.length≤sizeLine)
  (h:∀ h',ObjM h' x dx C (fun y=>if y=name then some v else mA y)→Heap.SameBut dx s.heap h'→Q () { s with heap:=h',toks:=s.toks+2 }) :
  wpAny (model prog w) A (setAttr (.ref x) name v) Q E s:=by
 obtain ⟨od,J,hl⟩:=I.look
 refine W.set_plain X J hs (W.osa_open (s:={ s with toks:=s.toks+1 }) (r:=none) X J hp ht fun b=>?_)
 obtain ⟨cd,hc,hd'⟩:=W.any_some hh
 have hx:s.heap.get? x=some ⟨.ref C,some dx,.plain,#[]⟩:=I.obj
 refine wpAny_bind (wpAny_pure (wpAny_bind (wpAny_bind (wpAny_loadPart hx (wpAny_bind (W.Looks.here (s:={ s with toks:=s.toks+1 }) (W.looks_clsIn X hc) ?_))))))
 rw [hd']
 refine wpAny_pure (a:=some dx) (wpAny_bind (wpAny_pure (wpAny_bind ?_)))
 refine wpAny_nsSet1 (s:={ s with toks:=s.toks+1 }) I.ns fun h' hn2 hs2=>?_
 obtain ⟨oD,esD,epD,hoD,hdD,hcD⟩:=hn2.count (PySem.Within.cons name v hw)
 refine wpAny_bind (wpAny_lookBehind hoD (by rw [hdD]; exact pastItsLine_dict (Nat.le_trans hcD (by rw [List.length_cons]; omega))) ?_)
 exact wpAny_pure (h _ ⟨(hs2.2 _ (Ne.symm I.ne)).trans I.obj,hn2,I.ne⟩ hs2)
theorem make_map {R : Result → Shared → Prop} {vs : List Value} {kw : List (Str × Value)} (X : K.In s.heap) (hm : W.makesIn K C = true)
    (hi : W.findIn K (.ref C) "__init__" = some (some (.ref f))) (hf : W.typeIn K (.ref f) = some (.type "function"))
    (h : codeAny (model prog w) (A.under (.builtin "type.__call__" ⟨.ref C :: vs, kw⟩)) (.call (.ref f) ⟨.ref (s.heap.objs.size + 1) :: vs, kw⟩) (W.InitBack (s.heap.objs.size + 1) R)
      { s with heap := (s.heap.push W.emptyDict).push (W.instObj C s.heap.objs.size) }) :
    codeAny (model prog w) A (.call (.ref C) ⟨vs, kw⟩) R s := by
  obtain ⟨hh, g, d, t, os⟩ := s
  exact W.make_core (W.makes_of X hm) (W.looks_findIn X hi) (fun self => W.bind_fn X self hf) (.inl rfl) h
end
def putF (f:Str) (v:V):List (Str×V)→List (Str×V)
 | []=>[(f,v)]
 | (g,x) :: r=>if g=f then (g,v) :: r else (g,x) :: putF f v r
theorem lookup_putF (f g:Str) (v:V):∀ fs:List (Str×V),(putF f v fs).lookup g=if g=f then some v else fs.lookup g
 | []=>by
  show List.lookup g [(f,v)]=_
  by_cases h:g=f
  ·have hb:(g==f)=true:=beq_iff_eq.mpr h
   simp only [List.lookup,hb,if_pos h]
  ·have hb:(g==f)=false:=beq_eq_false_iff_ne.mpr h
   simp only [List.lookup,hb,if_neg h]
 | (k,x) :: r=>by
  have ih:=lookup_putF f g v r
  rw [show putF f v ((k,x) :: r)=(if k=f then (k,v) :: r else (k,x) :: putF f v r) from rfl]
  by_cases hk:k=f
  ·rw [if_pos hk]
   by_cases h:g=k
   ·have hb:(g==k)=true:=beq_iff_eq.mpr h
    simp only [List.lookup,hb,if_pos (h.trans hk)]
   ·have hb:(g==k)=false:=beq_eq_false_iff_ne.mpr h
    simp only [List.lookup,hb,if_neg (fun e:g=f=>h (e.trans hk.symm))]
  ·rw [if_neg hk]
   by_cases h:g=k
   ·have hb:(g==k)=true:=beq_iff_eq.mpr h
    simp only [List.lookup,hb,if_neg (fun e:g=f=>hk (h.symm.trans e))]
   ·have hb:(g==k)=false:=beq_eq_false_iff_ne.mpr h
    simp only [List.lookup,hb]
    exact ih
theorem keys_putF (f:Str) (v:V):∀ fs:List (Str×V),f∈(putF f v fs).map (·.1)∧∀ g,g∈fs.map (·.1)→g∈(putF f v fs).map (·.1)
 | []=>⟨by simp [putF],fun g h=>by simp at h⟩
 | (k,x) :: r=>by
  obtain ⟨i1,i2⟩:=keys_putF f v r
  rw [show putF f v ((k,x) :: r)=(if k=f then (k,v) :: r else (k,x) :: putF f v r) from rfl]
  by_cases hk:k=f
  ·rw [if_pos hk]
   subst hk
   exact ⟨by simp,fun g h=>by simpa using h⟩
  ·rw [if_neg hk]
   refine ⟨?_,fun g h=>?_⟩
   ·rw [List.map_cons]
    exact List.mem_cons_of_mem _ i1
   ·rw [List.map_cons] at h ⊢
    rcases List.mem_cons.mp h with e | e
    ·exact List.mem_cons.mpr (.inl e)
    ·exact List.mem_cons_of_mem _ (i2 g e)
theorem length_putF (f:Str) (v:V):∀ fs:List (Str×V),(putF f v fs).length≤fs.length+1
 | []=>by simp [putF]
 | (k,x) :: r=>by
  have ih:=length_putF f v r
  rw [show putF f v ((k,x) :: r)=(if k=f then (k,v) :: r else (k,x) :: putF f v r) from rfl]
  by_cases hk:k=f
  ·rw [if_pos hk,List.length_cons,List.length_cons]; omega
  ·rw [if_neg hk,List.length_cons,List.length_cons]; omega
theorem RelO.some_of {v:V} {o:Option Value} (r:RelO (some v) o):∃ u,o=some u∧RelV v u:=by
 cases o with
 | none=>exact (show False from r).elim
 | some u=>exact ⟨u,rfl,r⟩
theorem RelO.none_of {o:Option Value} (r:RelO none o):o=none:=by
 cases o with
 | none=>rfl
 | some u=>exact (show False from r).elim
theorem handed_of {v:V} {u:Value} (r:RelV v u):W.handedIn u=true:=by
 cases v with
 | non=>cases (show u=Value.none from r); rfl
 | bl b=>cases (show u=Value.bool b from r); rfl
 | int i=>obtain ⟨t,e⟩:=(show ∃ t,u=Value.int i t from r); cases e; rfl
 | str x=>obtain ⟨t,e⟩:=(show ∃ t,u=Value.str x t from r); cases e; rfl
 | byt b=>obtain ⟨t,e⟩:=(show ∃ t,u=Value.bytes b t from r); cases e; rfl
 | flt b=>obtain ⟨t,e⟩:=(show ∃ t,u=Value.float b t from r); cases e; rfl
 | ref a=>cases (show u=Value.ref a from r); rfl
 | ty n=>cases (show u=Value.type n from r); rfl
section
variable {P:Program} {w:World} {H H':Hp} {h h':Heap} {a C dx:Addr} {fs fs':List (Str×V)}
theorem ins_get (hok:HOk P w H h) (e:H a=some (.ins C dx fs)):∃ mA,ObjM h a dx C mA∧(∀ f,RelO (fs.lookup f) (mA f))∧PySem.Within mA (fs.map (·.1))∧fs.length≤1000∧H dx=some (.own a):=by
 obtain ⟨d,z,ne,ob,mA,n,r,q⟩:=(show ObjOk P w H h a (.ins C dx fs) from hok a _ e)
 exact ⟨mA,⟨ob,n,ne⟩,r,q,z,d⟩
end
structure Cls (K:W.Frag) (C:Addr):Prop where
 pg:W.plainGet K C Str.empty=true
 hd:W.hasDictIn K C=true
 po:W.plainOver K C=true
 sa:W.findIn K (.ref C) "__setattr__"=some (some (.builtin "object.__setattr__"))
theorem Cls.get {K:W.Frag} {C:Addr} (c:Cls K C) (f:Str):W.plainGet K C f=true:=c.pg
def NoAttr (K:W.Frag) (C:Addr) (f:Str):Prop:=W.findIn K (.ref C) f=some none
theorem NoAttr.taker {K:W.Frag} {C:Addr} {f:Str} (n:NoAttr K C f):W.takerIn K C f=some none:=by
 unfold W.takerIn
 rw [show W.findIn K (.ref C) f=some none from n]
 rfl
structure Meth (K:W.Frag) (C:Addr) (m:Str) (f:Addr):Prop where
 at_:W.findIn K (.ref C) m=some (some (.ref f))
 fn:W.isFn K (.ref f)=true
 kp:W.keepIn K (.ref f)=true
section
variable {X:Cx} {pins:List (Addr×Obj)} {σ:St} {H:Hp} {s:Shared} {a C dx:Addr} {fs:List (Str×V)} {f:Str} {v:V} {A:Around} {E:Value→Shared→Prop}
theorem getattr_ok {b:Bool} {Q:Value→Shared→Prop} (I:Inv X pins σ H s) (e:H a=some (.ins C dx fs)) (c:Cls X.K C) (n:NoAttr X.K C f) (l:fs.lookup f=some v)
  (h:∀ u s',Inv X pins σ H s'→RelV v u→Q u s'):wpAny (model X.prog X.w) A (getAttr (.ref a) f b) Q E s:=by
 obtain ⟨mA,O,r,_,_,_⟩:=ins_get I.hok e
 obtain ⟨u,hu,ru⟩:=RelO.some_of (v:=v) (o:=mA f) (by rw [← l]; exact r f)
 exact get_map I.kIn O (c.get f) c.hd n hu (handed_of ru) (h u _ (I.tok _) ru)
theorem getmeth_ok {m:Str} {g:Addr} {pl:Sem Bool} {Q:Value×List Value→Shared→Prop} (I:Inv X pins σ H s) (e:H a=some (.ins C dx fs)) (c:Cls X.K C) (k:Meth X.K C m g) (l:fs.lookup m=none)
  (h:Q (.ref g,[.ref a]) s):wpAny (model X.prog X.w) A (getMethod (.ref a) m pl) Q E s:=by
 obtain ⟨mA,O,r,_,_,_⟩:=ins_get I.hok e
 have hn:mA m=none:=RelO.none_of (by rw [← l]; exact r m)
 exact get_meth I.kIn O (c.get m) k.at_ k.fn hn h
theorem setattr_ok {y:V} {u:Value} {Q:Unit→Shared→Prop} (I:Inv X pins σ H s) (e:H a=some (.ins C dx fs)) (c:Cls X.K C) (n:NoAttr X.K C f) (hl:fs.length < 1000) (ry:RelV y u)
  (h:∀ s',Inv X pins σ (upd H a (.ins C dx (putF f y fs))) s'→Q () s'):wpAny (model X.prog X.w) A (setAttr (.ref a) f u) Q E s:=by
 obtain ⟨mA,O,r,wi,_,ho⟩:=ins_get I.hok e
 have hz:(fs.map (·.1)).length≤sizeLine:=by rw [List.length_map,sizeLine_eq]; omega
 refine set_map I.kIn O c.sa c.po n.taker c.hd wi hz fun h' O' sb=>h _ ?_
 have hd:∃ o,h'.get? dx=some o:=let ⟨o,_,_,e',_⟩:=O'.ns; ⟨o,e'⟩
 refine I.write (x:=a) (e:=dx) (by rw [e]; exact True.intro) (.inr ho) (fun b q hb z=>(sb.2 b hb).trans z) hd ?_
 refine ⟨by rw [upd_ne O.ne]; exact ho,?_,O.ne,O'.obj,_,O'.ns,fun g=>?_,fun g hg=>?_⟩
 ·have:=length_putF f y fs; omega
 ·show RelO ((putF f y fs).lookup g) (if g=f then some u else mA g)
  rw [lookup_putF]
  by_cases q:g=f
  ·rw [if_pos q,if_pos q]; exact ry
  ·rw [if_neg q,if_neg q]; exact r g
 ·by_cases q:g=f
  ·rw [q]; exact (keys_putF f y fs).1
  ·refine (keys_putF f y fs).2 g (wi g fun z=>hg ?_)
   show (if g=f then some u else mA g)=none
   rw [if_neg q]; exact z
theorem Inv.made (I:Inv X pins σ H s):Inv X pins σ (upd (upd H s.heap.objs.size (.own (s.heap.objs.size+1))) (s.heap.objs.size+1) (.ins C s.heap.objs.size []))
  { s with heap:=(s.heap.push W.emptyDict).push (W.instObj C s.heap.objs.size) }:=by
 have e1:(s.heap.push W.emptyDict).get? s.heap.objs.size=some W.emptyDict:=Heap.get?_push_size s.heap rfl
 have e2:((s.heap.push W.emptyDict).push (W.instObj C s.heap.objs.size)).get? (s.heap.objs.size+1)=some (W.instObj C s.heap.objs.size):=by
  have:=Heap.get?_push_size (s.heap.push W.emptyDict) (o:=W.instObj C s.heap.objs.size) rfl
  rwa [Heap.size_push] at this
 have e3:(s.heap.push W.emptyDict).Ns s.heap.objs.size (fun _=>none):=⟨W.emptyDict,#[],_,e1,rfl,(fun e he=>absurd he (by simp)),fun _=>rfl⟩
 have I1:=I.laid (a:=s.heap.objs.size) (o:=.own (s.heap.objs.size+1)) (h':=s.heap.push W.emptyDict) (t':=s.toks) (fun b u q=>Heap.get?_push_of_some _ q) (Nat.le_refl _) ⟨_,e1⟩
 refine I1.laid (a:=s.heap.objs.size+1) (o:=.ins C s.heap.objs.size []) (t':=s.toks) (fun b u q=>Heap.get?_push_of_some _ q) (Nat.le_of_eq (Heap.size_push _ _)) ?_
 have ne:s.heap.objs.size≠s.heap.objs.size+1:=Nat.ne_of_lt (Nat.lt_succ_self _)
 refine ⟨by rw [upd_ne ne,upd_same],Nat.zero_le _,ne,e2,fun _=>none,(Heap.Ns1.of_empty e3).at fun o q=>Heap.get?_push_of_some _ q,fun _=>True.intro,fun y hy=>absurd rfl hy⟩
theorem attr_of {prog:Program} {w:World} {env:Env} {e:Expr} {f:Str} {pos:Pos} {s:Shared} {Q:Value→Shared→Prop} (hb:attributeBase e f env (eval e env)=eval e env)
  (h:wpAny (model prog w) A (eval e env) (fun o s₁=>wpAny (model prog w) A (getAttr o f true) Q E s₁) E s):wpAny (model prog w) A (eval (.Attribute e f pos) env) Q E s:=
 Attribute_any_ h (by rw [arm_eval_Attribute,hb])
end
def tFld (K:W.Frag) (ta:TE) (f:Str):TE:=fun σ H Q=>ta σ H fun x H1=>∃ a C dx fs v,x=.ref a∧H1 a=some (.ins C dx fs)∧Cls K C∧NoAttr K C f∧fs.lookup f=some v∧Q v H1
def sFld (K:W.Frag) (ta tv:TE) (f:Str):TS:=fun D σ H=>tv σ H fun y H1=>ta σ H1 fun x H2=>∃ a C dx fs,x=.ref a∧H2 a=some (.ins C dx fs)∧Cls K C∧NoAttr K C f∧fs.length < 1000∧
 D.nx σ (upd H2 a (.ins C dx (putF f y fs)))
section
variable {X:Cx} {o e value:Expr} {f:Str} {pos pos' tpos:Pos} {ta tv:TE}
theorem pe_fld (he:PE X e ta) (hb:attributeBase e f X.env (eval e X.env)=eval e X.env):PE X (.Attribute e f pos) (tFld X.K ta f):=by
 intro pins s σ H Q I h
 refine attr_of hb (thn (he pins s σ H _ I h) fun u s1 ⟨x,H1,I1,rx,a,C,dx,fs,v,ex,ea,c,n,l,q⟩=>?_)
 subst ex
 obtain rfl:u=Value.ref a:=rx
 exact getattr_ok I1 ea c n l fun u' s2 I2 ru=>⟨v,H1,I2,ru,q⟩
theorem ps_fld (ha:PE X o ta) (hv:PE X value tv) (hs:swapsWith value (some (.Attribute o f pos')) pos.line X.env=pure false):PS X (.Assign [.Attribute o f pos'] value pos) (sFld X.K ta tv f):=by
 intro pins s σ H D I h
 refine plainObj_wpAny_Assign_Attribute (thn (hv pins s σ H _ I h) fun u s1 ⟨y,H1,I1,ry,q⟩=>thn (ha pins s1 σ H1 _ I1 q) fun ov s2 ⟨x,H2,I2,rx,a,C,dx,fs,ex,ea,c,n,l,q2⟩=>?_) hs
 subst ex
 obtain rfl:ov=Value.ref a:=rx
 exact setattr_ok I2 ea c n l ry fun s3 I3=>⟨σ,_,I3,q2⟩
end
section
variable {X:Cx} {pins:List (Addr×Obj)} {σ:St} {H:Hp} {s:Shared} {A:Around} {E:Value→Shared→Prop} {Q:Value→Shared→Prop} {c:Value} {b:Bool}
inductive TyOf (K:W.Frag) (H:Hp):V→Value→Prop where
 | non:TyOf K H .non (.type "NoneType")
 | bl (x:Bool):TyOf K H (.bl x) (.type "bool")
 | int (i:Int):TyOf K H (.int i) (.type "int")
 | str (x:Str):TyOf K H (.str x) (.type "str")
 | flt (x:UInt64):TyOf K H (.flt x) (.type "float")
 | lst {a:Addr} {xs:List V} (e:H a=some (.lst xs)):TyOf K H (.ref a) (.type "list")
 | frz {a:Addr} {o:Obj} {xs:List V} (e:H a=some (.frz o (.lst xs))):TyOf K H (.ref a) (.type "list")
 | tup {a:Addr} {xs:List V} (e:H a=some (.tup xs)):TyOf K H (.ref a) (.type "tuple")
 | dK {a:Addr} {kvs:List (Key×V)} (e:H a=some (.dK kvs)):TyOf K H (.ref a) (.type "dict")
 | dT {a:Addr} {kvs:List (List Key×V)} (e:H a=some (.dT kvs)):TyOf K H (.ref a) (.type "dict")
 | ins {a C dx:Addr} {fs:List (Str×V)} (e:H a=some (.ins C dx fs)) (cl:Cls K C) (ha:W.findIn K (.ref C) "__class__"=some (some (.builtin "object.__class__")))
   (hn:W.specialIn K (.builtin "object.__class__") "__get__"=some (some (.builtin "getset_descriptor.__get__"))) (htk:W.takesIn K (.builtin "object.__class__")=some true)
   (hm:W.mroIn K C (.type "object")=some true):TyOf K H (.ref a) (.ref C)
theorem isinst_ok {x:V} {u t:Value} (I:Inv X pins σ H s) (rx:RelV x u) (ty:TyOf X.K H x t) (e:W.kitOne X.K t c=some b) (h:∀ tk,Q (.bool b) { s with toks:=tk }) :
  wpAny (model X.prog X.w) A (call (.builtin "isinstance") [u,c]) Q E s:=by
 cases ty with
 | non=>cases (show u=Value.none from rx); exact W.kia_one W.kitx_none I.kIn True.intro e (fun z=>nomatch z) h
 | bl y=>cases (show u=Value.bool y from rx); exact W.kia_one W.kitx_bool I.kIn True.intro e (fun z=>nomatch z) h
 | int i=>obtain ⟨t,q⟩:=(show ∃ t,u=Value.int i t from rx); cases q; exact W.kia_one W.kitx_int I.kIn True.intro e (fun z=>nomatch z) h
 | str y=>obtain ⟨t,q⟩:=(show ∃ t,u=Value.str y t from rx); cases q; exact W.kia_one W.kitx_str I.kIn True.intro e (fun z=>nomatch z) h
 | flt y=>obtain ⟨t,q⟩:=(show ∃ t,u=Value.float y t from rx); cases q; exact W.kia_one W.kitx_float I.kIn True.intro e (fun z=>nomatch z) h
 | @lst a xs ea=>
  cases (show u=Value.ref a from rx)
  obtain ⟨_,_,n,_,h1⟩:=(show ObjOk X.prog X.w H s.heap a (.lst xs) from I.hok a _ ea)
  exact W.kia_one W.kitx_list I.kIn ⟨_,h1,rfl⟩ e (fun z=>nomatch z) h
 | @frz a ob xs ea=>
  cases (show u=Value.ref a from rx)
  obtain ⟨_,_,_,n,_,h1⟩:=(show ObjOk X.prog X.w H s.heap a (.frz ob (.lst xs)) from I.hok a _ ea)
  exact W.kia_one W.kitx_list I.kIn ⟨_,h1,rfl⟩ e (fun z=>nomatch z) h
 | @tup a xs ea=>
  cases (show u=Value.ref a from rx)
  obtain ⟨_,_,_,p⟩:=(show ObjOk X.prog X.w H s.heap a (.tup xs) from I.hok a _ ea)
  obtain ⟨o,h1,h2,_⟩:=p
  exact W.kia_one W.kitx_tuple I.kIn ⟨o,h1,h2⟩ e (fun z=>nomatch z) h
 | @dK a kvs ea=>
  cases (show u=Value.ref a from rx)
  obtain ⟨_,_,vs,_,p⟩:=(show ObjOk X.prog X.w H s.heap a (.dK kvs) from I.hok a _ ea)
  obtain ⟨o,es,ep,h1,h2,_⟩:=p
  exact W.kia_one W.kitx_dict I.kIn ⟨o,h1,h2.1⟩ e (fun z=>nomatch z) h
 | @dT a kvs ea=>
  cases (show u=Value.ref a from rx)
  obtain ⟨_,_,xs,_,o,es,ep,h1,h2,_⟩:=(show ObjOk X.prog X.w H s.heap a (.dT kvs) from I.hok a _ ea)
  exact W.kia_one W.kitx_dict I.kIn ⟨o,h1,h2.1⟩ e (fun z=>nomatch z) h
 | @ins a C dx fs ea cl ha hn htk hm=>
  cases (show u=Value.ref a from rx)
  obtain ⟨mA,O,_⟩:=ins_get I.hok ea
  obtain ⟨od,J,_⟩:=O.look
  exact W.kia_one (W.kitx_own (cl.get _) cl.hd ha hn htk hm) I.kIn J e (fun z=>nomatch z) h
end
end L2
namespace L2
open PySem PySem.Spec PyProof.Rows
structure Room (k:Nat) (A:Around):Prop where
 hd:A.handled=none
 dp:A.depth+3*k+5 < recursionLimit
 un:A.units+16*k+200 < cLine
theorem Room.mono {j k:Nat} {A:Around} (r:Room k A) (h:j≤k):Room j A:=⟨r.hd,by have:=r.dp; omega,by have:=r.un; omega⟩
theorem Room.deeper {k:Nat} {A:Around} (r:Room (k+1) A) (env:Env):Room k (A.deeper env):=
 ⟨r.hd,by have:=r.dp; show A.depth+1+3*k+5 < _; omega,by have:=r.un; show A.units+3+16*k+200 < _; omega⟩
theorem make_depth {A:Around} {C:Addr} {us:List Value} {kw:List (Str×Value)}:(A.under (.builtin "type.__call__" ⟨.ref C :: us,kw⟩)).depth=A.depth+1:=by
 first | rfl | simp [Around.under,Code.weight,Code.isCreation,Code.isGuard,Code.isCaller,Code.frames,Code.isFrame,guardIds]
theorem make_units {A:Around} {C:Addr} {us:List Value} {kw:List (Str×Value)}:(A.under (.builtin "type.__call__" ⟨.ref C :: us,kw⟩)).units=A.units+1:=by
 first | rfl | simp [Around.under,Code.cUnits,Code.frames,Code.isFrame]
theorem Room.make {k:Nat} {A:Around} (r:Room (k+1) A) (C:Addr) (us:List Value) (kw:List (Str×Value)):Room k (A.under (.builtin "type.__call__" ⟨.ref C :: us,kw⟩)):=
 ⟨r.hd,by have:=r.dp; rw [make_depth]; omega,by have:=r.un; rw [make_units]; omega⟩
theorem Room.depth {k:Nat} {A:Around} (r:Room k A):A.depth < recursionLimit:=by have:=r.dp; omega
theorem Room.units {k:Nat} {A:Around} (r:Room k A):A.units+64 < cLine:=by have:=r.un; omega
def tNil:TA:=fun _ H Q=>Q [] H
def tCons (ta:TE) (tr:TA):TA:=fun σ H Q=>ta σ H fun x H1=>tr σ H1 fun xs H2=>Q (x :: xs) H2
section
variable {X:Cx} {e:Expr} {es:List Expr} {te:TE} {t:TA} {pos:Pos}
theorem pa_nil:PA X [] tNil:=fun _ _ _ _ H Q I h=>Calls.spliced_nil ⟨[],H,I,.nil,h⟩
theorem pa_cons (ha:PE X e te) (hr:PA X es t) (hs:starEach (e :: es) X.env=(false,eval e X.env) :: starEach es X.env:=by rfl):PA X (e :: es) (tCons te t):=by
 intro pos pins s σ H Q I h
 rw [hs]
 show wpAny _ _ (spliced ((false,eval e X.env) :: backTo pos (starEach es X.env))) _ _ s
 refine Calls.spliced_cons (thn (ha pins s σ H _ I h) fun u s1 ⟨x,H1,I1,r1,q1⟩=>?_)
 exact thn (hr pos pins s1 σ H1 _ I1 q1) fun us s2 ⟨xs,H2,I2,r2,q2⟩=>⟨x :: xs,H2,I2,.cons r1 r2,q2⟩
def tTup (t:TA):TE:=fun σ H Q=>t σ H fun xs H1=>xs.length≤sizeLine∧∀ p,H1 p=none→Q (.ref p) (upd H1 p (.tup xs))
def tLst (t:TA):TE:=fun σ H Q=>t σ H fun xs H1=>xs.length≤sizeLine∧∀ p,H1 p=none→Q (.ref p) (upd H1 p (.lst xs))
theorem pe_tup {x1} (h:PA X es t):PE X (.Tuple es x1 pos) (tTup t):=by
 intro pins s σ H Q I hq
 refine wpAny_Tuple_spliced (thn (h pos pins s σ H _ I hq) fun us s1 ⟨xs,H1,I1,r,z,q⟩=>⟨by rw [← r.length]; exact z,?_⟩)
 have hf:H1 s1.heap.objs.size=none:=I1.hok.fresh (Nat.le_refl _)
 refine ⟨.ref s1.heap.objs.size,upd H1 s1.heap.objs.size (.tup xs),I1.laid (t':=s1.toks) (fun b u e=>Heap.get?_push_of_some _ e) (Nat.le_refl _) ?_,rfl,q _ hf⟩
 exact ⟨z,us,r,⟨_,Heap.get?_push_size _ rfl,rfl,_,rfl⟩⟩
theorem pe_lst (h:PA X es t):PE X (.List es pos) (tLst t):=by
 intro pins s σ H Q I hq
 refine wpAny_List_spliced (thn (h pos pins s σ H _ I hq) fun us s1 ⟨xs,H1,I1,r,z,q⟩=>⟨by rw [← r.length]; exact z,?_⟩)
 have hf:H1 s1.heap.objs.size=none:=I1.hok.fresh (Nat.le_refl _)
 refine ⟨.ref s1.heap.objs.size,upd H1 s1.heap.objs.size (.lst xs),I1.laid (t':=s1.toks) (fun b u e=>Heap.get?_push_of_some _ e) (Nat.le_refl _) ?_,rfl,q _ hf⟩
 exact ⟨z,us,0,r,Heap.get?_push_size _ rfl⟩
end
abbrev Sp:=List V→Hp→VK→XK→Prop
abbrev CXT:=List Env→Hp→Shared→XK→Value→Shared→Prop
structure Env0 (P:Program) (w:World) (K:W.Frag) (mg:Str→Option Value) (base:Heap) (A:Around) (outer:List Env) (s:Shared) (H:Hp):Prop where
 frames:A.frames=some outer
 mod:Mod K mg base
 bs:∀ b o,base.get? b=some o→s.heap.get? b=some o∧H b=none
 bsz:base.objs.size≤s.heap.objs.size
 funs:s.heap.FunFrames base outer
 frf:∀ b∈frs outer,H b=none
 hok:HOk P w H s.heap
 bare:AllBare s.gens
def CE (outer:List Env) (P:Program) (w:World) (H:Hp) (s:Shared) (Q:VK) (u:Value) (s':Shared):Prop:=
 ∃ v H',s'.os=s.os∧AllBare s'.gens∧Un (frs outer) [] H H' s.heap s'.heap∧HOk P w H' s'.heap∧RelV v u∧Q v H'
def CR (CX:CXT) (outer:List Env) (P:Program) (w:World) (H:Hp) (s:Shared) (Q:VK) (E:XK) (r:Result) (s':Shared):Prop:=
 match r with
 | .ok (.ret u)=>CE outer P w H s Q u s'
 | .ok _=>False
 | .error e=>CX outer H s E e s'
structure FnOk (P:Program) (w:World) (K:W.Frag) (mg:Str→Option Value) (base:Heap) (CX:CXT) (k:Nat) (f:Addr) (fd:FuncData) (ps:List Str) (sp:Sp):Prop where
 len:∀ vs H Q E,sp vs H Q E→vs.length=ps.length
 run:∀ (A:Around) (outer:List Env) (s:Shared) (H:Hp) (args:Args) (us:List Value) (vs:List V) (Q:VK) (E:XK),Room k A→Env0 P w K mg base A outer s H→BindsTo s fd args (ps.zip us)→Vals vs us→sp vs H Q E→
  codeAny (model P w) A (.call (.ref f) args) (CR CX outer P w H s Q E) s
theorem FnOk.imp {P:Program} {w:World} {K:W.Frag} {mg:Str→Option Value} {base:Heap} {CX:CXT} {k:Nat} {f:Addr} {fd:FuncData} {ps:List Str} {sp sp':Sp} (F:FnOk P w K mg base CX k f fd ps sp)
  (h:∀ vs H Q E,sp' vs H Q E→sp vs H Q E):FnOk P w K mg base CX k f fd ps sp':=
 ⟨fun vs H Q E q=>F.len vs H Q E (h _ _ _ _ q),fun A outer s H args us vs Q E hr he hb hv hs=>F.run A outer s H args us vs Q E hr he hb hv (h _ _ _ _ hs)⟩
theorem Env0.make {P:Program} {w:World} {K:W.Frag} {mg:Str→Option Value} {base:Heap} {A:Around} {outer:List Env} {s:Shared} {H:Hp} (e:Env0 P w K mg base A outer s H) (C:Addr) (us:List Value) (kw:List (Str×Value)) :
  Env0 P w K mg base (A.under (.builtin "type.__call__" ⟨.ref C :: us,kw⟩)) outer s H:=⟨by first | exact e.frames | (simpa [Around.under,Code.envs,Code.isFrame,pushEnvs] using e.frames),e.mod,e.bs,e.bsz,e.funs,e.frf,e.hok,e.bare⟩
section
variable {X:Cx} {pins:List (Addr×Obj)} {σ:St} {H:Hp} {s s':Shared}
theorem Inv.env0 (I:Inv X pins σ H s):Env0 X.prog X.w X.K X.mg X.base X.A X.stack s H:=
 ⟨I.ok.frames,I.ok.mod,I.bs,Nat.le_trans I.ok.bsz I.sz,I.stack,I.stkFree,I.hok,I.bare⟩
theorem Inv.after {Q:VK} {u:Value} (I:Inv X pins σ H s) (h:CE X.stack X.prog X.w H s Q u s'):EP X pins σ Q u s':=by
 obtain ⟨v,H',os,bare,un,hok,r,q⟩:=h
 obtain ⟨hh,g,d,t,os'⟩:=s'
 obtain rfl:os'=s.os:=os
 exact ⟨v,H',I.call (h':=hh) (g':=g) (d':=d) (t':=t) (ch:=[]) un hok bare (fun b z=>absurd z (by simp)),r,q⟩
end
def tCall (sp:Sp) (dvs:List V) (E:XK) (t:TA):TE:=fun σ H Q=>t σ H fun vs H1=>sp (vs++dvs) H1 Q E
def tMeth (C:Addr) (m:Str) (sp:Sp) (dvs:List V) (E:XK) (ta:TE) (t:TA):TE:=fun σ H Q=>ta σ H fun x H1=>∃ a dx fs,x=.ref a∧H1 a=some (.ins C dx fs)∧fs.lookup m=none∧
 t σ H1 fun vs H2=>sp (x :: (vs++dvs)) H2 Q E
def tMake (C:Addr) (sp:Sp) (dvs:List V) (E:XK) (t:TA):TE:=fun σ H Q=>t σ H fun vs H1=>∀ x dx,H1 x=none→H1 dx=none→dx≠x→
 sp (.ref x :: (vs++dvs)) (upd (upd H1 dx (.own x)) x (.ins C dx [])) (fun v H2=>v=.non∧Q (.ref x) H2) E
def Binds (K:W.Frag) (fd:FuncData) (ps:List Str) (ds:List Value):Prop:=
 ∀ (s:Shared) (us:List Value),K.In s.heap→(us++ds).length=ps.length→BindsTo s fd ⟨us,[]⟩ (ps.zip (us++ds))
theorem Binds.all {K:W.Frag} {fd:FuncData} {ps:List Str} (h:∀ us:List Value,us.length=ps.length→bindArgs fd ⟨us,[]⟩=pure (ps.zip us)):Binds K fd ps []:=fun s us _ hl=>by
 rw [List.append_nil] at hl ⊢
 exact .of_eq (h us hl)
def Passes (CX:CXT) (X:Cx) (E:XK):Prop:=∀ (pins:List (Addr×Obj)) (σ:St) (H:Hp) (s:Shared) (e:Value) (s':Shared),Inv X pins σ H s→CX X.stack H s E e s'→X.xe e s'
section
variable {X:Cx} {CX:CXT} {k:Nat} {f C:Addr} {fd:FuncData} {ps:List Str} {sp:Sp} {dvs:List V} {ds:List Value} {E:XK} {x m:Str} {p pos apos:Pos} {e o:Expr} {es:List Expr} {ta:TE} {t:TA}
theorem run_fn {pins:List (Addr×Obj)} {σ:St} {H:Hp} {s:Shared} {Q:VK} {us:List Value} {vs:List V} (F:FnOk X.prog X.w X.K X.mg X.base CX k f fd ps sp) (hr:Room k X.A) (hb:Binds X.K fd ps ds) (hd:Vals dvs ds) (hx:Passes CX X E)
  (I:Inv X pins σ H s) (r:Vals vs us) (h:sp (vs++dvs) H Q E):wpAny (model X.prog X.w) X.A (call (.ref f) us) (EP X pins σ Q) X.xe s:=by
 have r2:Vals (vs++dvs) (us++ds):=r.append hd
 have hl:(us++ds).length=ps.length:=by rw [← r2.length]; exact F.len _ _ _ _ h
 refine wpAny_call (codeAny_mono (F.run X.A X.stack s H ⟨us,[]⟩ (us++ds) (vs++dvs) Q E hr I.env0 (hb s us I.kIn hl) r2 h) fun r s' hq=>?_)
 cases r with
 | error e=>exact hx pins σ H s e s' I hq
 | ok fl=>
  cases fl with
  | ret u=>exact I.after hq
  | next=>exact False.elim hq
  | brk=>exact False.elim hq
  | cont=>exact False.elim hq
theorem pe_call (F:FnOk X.prog X.w X.K X.mg X.base CX k f fd ps sp) (hr:Room k X.A) (hg:Gl X x) (hm:X.mg x=some (.ref f)) (hk:W.keepIn X.K (.ref f)=true) (hb:Binds X.K fd ps ds) (hd:Vals dvs ds) (hx:Passes CX X E)
  (ha:PA X (e :: es) t) (hdb:(x==("__debug__":Str))=false:=by decide) (he:starEach (e :: es) X.env=(false,eval e X.env) :: starEach es X.env:=by rfl) (hpl:(backTo pos (starEach es X.env)).any (·.1)=false:=by rfl) :
  PE X (.Call (.Name x p) (e :: es) [] pos) (tCall sp dvs E t):=by
 intro pins s σ H Q I h
 refine wpAny_Call_Name_kw (ld_glob I hg hm ?_ hdb)
 refine W.callWith_K (h₀:=X.base) I.ok.mod.kin hk (thn (ha pos pins s σ H _ I h) fun us s1 ⟨vs,H1,I1,r,q⟩=>⟨I1.kIn,?_⟩) he hpl
 exact run_fn F hr hb hd hx I1 r q
theorem pe_meth {pl : Sem Bool} (he : PE X o ta) (c : Cls X.K C) (hm : Meth X.K C m f) (F : FnOk X.prog X.w X.K X.mg X.base CX k f fd ps sp) (hr : Room k X.A) (hb : Binds X.K fd ps ds) (hd : Vals dvs ds) (hx : Passes CX X E) (ha : PA X (e :: es) t)
    (hst : starEach (e :: es) X.env = (false, eval e X.env) :: starEach es X.env := by rfl) (hpl : (backTo pos (starEach es X.env)).any (·.1) = false := by rfl)
    (ht : eval (.Call (.Attribute o m apos) (e :: es) [] pos) X.env = (do
      let ov ← eval o X.env
      standAt apos.atName
      let (f, first) ← holding [ov] (getMethod ov m pl)
      callWith pos f first (backTo pos (starEach (e :: es) X.env)) (backToKw pos (keywordEach [] X.env))) := by rfl) :
    PE X (.Call (.Attribute o m apos) (e :: es) [] pos) (tMeth C m sp dvs E ta t) := by
  intro pins s σ H Q I h
  refine W.methodCall_KW (pl := pl) (thn (he pins s σ H _ I h) fun u s1 ⟨x, H1, I1, rx, a, dx, fs, ex, ea, l, q⟩ => ?_) ht
  subst ex
  obtain rfl : u = Value.ref a := rx
  refine getmeth_ok I1 ea c hm l ?_
  refine W.callWith_K (first := [.ref a]) (h₀ := X.base) I.ok.mod.kin hm.kp (thn (ha pos pins s1 σ H1 _ I1 q) fun us s2 ⟨vs, H2, I2, r, q2⟩ => ⟨I2.kIn, ?_⟩) hst hpl
  exact run_fn (us := .ref a :: us) (vs := .ref a :: vs) F hr hb hd hx I2 (.cons rfl r) q2
theorem pe_meth0 {pl : Sem Bool} (he : PE X o ta) (c : Cls X.K C) (hm : Meth X.K C m f) (F : FnOk X.prog X.w X.K X.mg X.base CX k f fd ps sp) (hr : Room k X.A) (hb : Binds X.K fd ps ds) (hd : Vals dvs ds) (hx : Passes CX X E)
    (ht : eval (.Call (.Attribute o m apos) [] [] pos) X.env = (do
      let ov ← eval o X.env
      standAt apos.atName
      let (f, first) ← holding [ov] (getMethod ov m pl)
      callWith pos f first (backTo pos (starEach [] X.env)) (backToKw pos (keywordEach [] X.env))) := by rfl) :
    PE X (.Call (.Attribute o m apos) [] [] pos) (tMeth C m sp dvs E ta tNil) := by
  intro pins s σ H Q I h
  refine W.methodCall_KW (pl := pl) (thn (he pins s σ H _ I h) fun u s1 ⟨x, H1, I1, rx, a, dx, fs, ex, ea, l, q⟩ => ?_) ht
  subst ex
  obtain rfl : u = Value.ref a := rx
  refine getmeth_ok I1 ea c hm l ?_
  exact W.callWith_K0 (first := [.ref a]) I1.kIn hm.kp (run_fn (us := [.ref a]) (vs := [.ref a]) F hr hb hd hx I1 (.cons rfl .nil) q)
structure Mk (K:W.Frag) (C f:Addr):Prop where
 makes:W.makesIn K C=true
 init:W.findIn K (.ref C) "__init__"=some (some (.ref f))
 fn:W.isFn K (.ref f)=true
 kp:W.keepIn K (.ref C)=true
theorem run_make {pins:List (Addr×Obj)} {σ:St} {H:Hp} {s:Shared} {Q:VK} {us:List Value} {vs:List V} (M:Mk X.K C f) (F:FnOk X.prog X.w X.K X.mg X.base CX k f fd ps sp) (hr:Room (k+1) X.A) (hb:Binds X.K fd ps ds) (hd:Vals dvs ds)
  (hx:Passes CX X E) (I:Inv X pins σ H s) (r:Vals vs us)
  (h:∀ x dx,H x=none→H dx=none→dx≠x→sp (.ref x :: (vs++dvs)) (upd (upd H dx (.own x)) x (.ins C dx [])) (fun v H2=>v=.non∧Q (.ref x) H2) E) :
  wpAny (model X.prog X.w) X.A (call (.ref C) us) (EP X pins σ Q) X.xe s:=by
 have hq:=h (s.heap.objs.size+1) s.heap.objs.size (I.hok.fresh (Nat.le_succ _)) (I.hok.fresh (Nat.le_refl _)) (Nat.ne_of_lt (Nat.lt_succ_self _))
 have I2:=Inv.made (C:=C) I
 have r2:Vals (V.ref (s.heap.objs.size+1) :: (vs++dvs)) (Value.ref (s.heap.objs.size+1) :: (us++ds)):=.cons rfl (r.append hd)
 have hl:(Value.ref (s.heap.objs.size+1) :: us++ds).length=ps.length:=by
  have e:=r2.length
  rw [F.len _ _ _ _ hq] at e
  exact e.symm
 refine wpAny_call (make_map (f:=f) I.kIn M.makes M.init (beq_iff_eq.mp M.fn) (codeAny_mono (F.run _ X.stack _ _ ⟨Value.ref (s.heap.objs.size+1) :: us,[]⟩ (Value.ref (s.heap.objs.size+1) :: (us++ds)) _ _ E (hr.make C us [])
  (I2.env0.make C us []) (hb _ (Value.ref (s.heap.objs.size+1) :: us) I2.kIn hl) r2 hq) fun r s' hq'=>?_))
 cases r with
 | error e=>exact hx pins σ _ _ e s' I2 hq'
 | ok fl=>
  cases fl with
  | ret u=>
   obtain ⟨v,H',I3,rv,ev,q3⟩:=I2.after hq'
   subst ev
   exact ⟨rv,⟨V.ref (s.heap.objs.size+1),H',I3,rfl,q3⟩⟩
  | next=>exact False.elim hq'
  | brk=>exact False.elim hq'
  | cont=>exact False.elim hq'
theorem pe_make (M:Mk X.K C f) (F:FnOk X.prog X.w X.K X.mg X.base CX k f fd ps sp) (hr:Room (k+1) X.A) (hg:Gl X x) (hm:X.mg x=some (.ref C)) (hb:Binds X.K fd ps ds) (hd:Vals dvs ds) (hx:Passes CX X E)
  (ha:PA X (e :: es) t) (hdb:(x==("__debug__":Str))=false:=by decide) (he:starEach (e :: es) X.env=(false,eval e X.env) :: starEach es X.env:=by rfl) (hpl:(backTo pos (starEach es X.env)).any (·.1)=false:=by rfl) :
  PE X (.Call (.Name x p) (e :: es) [] pos) (tMake C sp dvs E t):=by
 intro pins s σ H Q I h
 refine wpAny_Call_Name_kw (ld_glob I hg hm ?_ hdb)
 refine W.callWith_K (h₀:=X.base) I.ok.mod.kin M.kp (thn (ha pos pins s σ H _ I h) fun us s1 ⟨vs,H1,I1,r,q⟩=>⟨I1.kIn,?_⟩) he hpl
 exact run_make M F hr hb hd hx I1 r q
end
section
variable {X:Cx} {CX:CXT} {k:Nat} {f C:Addr} {fd:FuncData} {ps ks:List Str} {sp:Sp} {E:XK} {x m:Str} {p pos apos kpos:Pos} {e o:Expr} {es:List Expr} {kws:List Keyword} {te ta:TE} {t tk:TA} {nm:Option Str}
variable {g:List Value→List Value→List Value} {gV:List V→List V→List V}
end
structure FnScope (N P:List Str) (sc:Scope):Prop where
 kind:sc.kind=.function
 co:sc.isCoroutine=false
 gen:sc.isGenerator=false
 nd:N.Nodup
 pre:N.take P.length=P
 par:∀ x∈P,sc.names.lookup x=some .local∨sc.names.lookup x=some .cell
 nofree:∀ y∈sc.names,y.2≠.free
theorem bindL_out {kindOf:Str→Option NameKind} {x:Str}:∀ {binds:List (Str×Value)} {m:Str→Option Value},(∀ v,(x,v)∉binds)→bindL kindOf binds m x=m x
 | [],_,_=>rfl
 | (n,v) :: r,m,h=>by
  unfold bindL
  rw [bindL_out fun w hw=>h w (List.mem_cons_of_mem _ hw)]
  split
  ·have:x≠n:=by rintro rfl; exact h v List.mem_cons_self
   simp [this]
  ·rfl
theorem bindC_out {kindOf:Str→Option NameKind} {x:Str}:∀ {binds:List (Str×Value)} {m:Str→Option Value},(∀ v,(x,v)∉binds)→bindC kindOf binds m x=m x
 | [],_,_=>rfl
 | (n,v) :: r,m,h=>by
  unfold bindC
  rw [bindC_out fun w hw=>h w (List.mem_cons_of_mem _ hw)]
  split
  ·rfl
  ·have:x≠n:=by rintro rfl; exact h v List.mem_cons_self
   simp [this]
theorem bindL_get {kindOf:Str→Option NameKind} {x:Str} {v:Value}:∀ {P:List Str} {vs:List Value} {i:Nat} {m:Str→Option Value},P.Nodup→P[i]? = some x→vs[i]? = some v→kindOf x=some .local→
  bindL kindOf (P.zip vs) m x=some v
 | [],_,_,_,_,h,_,_=>by simp at h
 | _ :: _,[],_,_,_,_,h,_=>by simp at h
 | p :: P,w :: vs,0,m,nd,h1,h2,hk=>by
  simp at h1 h2; subst h1; subst h2
  show bindL kindOf ((p,w) :: P.zip vs) m p=_
  unfold bindL
  rw [bindL_out fun v hv=>(List.nodup_cons.mp nd).1 (List.of_mem_zip hv).1,if_pos hk]
  simp
 | p :: P,w :: vs,i+1,m,nd,h1,h2,hk=>by
  show bindL kindOf ((p,w) :: P.zip vs) m x=_
  unfold bindL
  exact bindL_get (i:=i) (List.nodup_cons.mp nd).2 (by simpa using h1) (by simpa using h2) hk
theorem bindC_get {kindOf:Str→Option NameKind} {x:Str} {v:Value}:∀ {P:List Str} {vs:List Value} {i:Nat} {m:Str→Option Value},P.Nodup→P[i]? = some x→vs[i]? = some v→kindOf x≠some .local→
  bindC kindOf (P.zip vs) m x=some v
 | [],_,_,_,_,h,_,_=>by simp at h
 | _ :: _,[],_,_,_,_,h,_=>by simp at h
 | p :: P,w :: vs,0,m,nd,h1,h2,hk=>by
  simp at h1 h2; subst h1; subst h2
  show bindC kindOf ((p,w) :: P.zip vs) m p=_
  unfold bindC
  rw [bindC_out fun v hv=>(List.nodup_cons.mp nd).1 (List.of_mem_zip hv).1,if_neg hk]
  simp
 | p :: P,w :: vs,i+1,m,nd,h1,h2,hk=>by
  show bindC kindOf ((p,w) :: P.zip vs) m x=_
  unfold bindC
  exact bindC_get (i:=i) (List.nodup_cons.mp nd).2 (by simpa using h1) (by simpa using h2) hk
def start (N:List Str) (vs:List V):St:=vs.map some++List.replicate (N.length-vs.length) none
def cxOf (CX:CXT) (P:Program) (w:World) (K:W.Frag) (mg:Str→Option Value) (base:Heap) (N:List Str) (qual:Str) (scope:Scope) (f:Addr) (cd:Value) (A:Around) (outer:List Env) (s:Shared) (H:Hp) (E:XK):Cx where
 prog:=P
 w:=w
 K:=K
 mg:=mg
 base:=base
 A:=A.deeper (envOfC qual scope s.heap.objs.size f cd)
 N:=N
 s₀:=s
 H₀:=H
 env:=envOfC qual scope s.heap.objs.size f cd
 outer:=outer
 stack:=envOfC qual scope s.heap.objs.size f cd :: outer
 ex:=[]
 calm:=true
 fn:=fun _=>true
 pn:=[]
 xe:=fun e s'=>wpAny (model P w) (A.deeper (envOfC qual scope s.heap.objs.size f cd)) (leaving (envOfC qual scope s.heap.objs.size f cd) e) (fun _ s''=>CX outer H s E e s'') (fun e' s''=>CX outer H s E e' s'') s'
theorem cell_has {sc:Scope} {n:Nat} {x:Str} (h:sc.names.lookup x=some .cell):∃ c,(cellsFrom n sc.names []).lookup x=some c:=by
 have q:=W.cellsFrom_some sc.names n [] (.inl h)
 exact Option.isSome_iff_exists.mp q
theorem inv_start {CX:CXT} {P:Program} {w:World} {K:W.Frag} {mg:Str→Option Value} {base:Heap} {N ps:List Str} {qual:Str} {scope:Scope} {f:Addr} {cd:Value} {A:Around} {outer:List Env} {s s1:Shared} {H:Hp} {E:XK} {us:List Value} {vs:List V}
  (S:FnScope N ps scope) (hd:A.handled=none) (e0:Env0 P w K mg base A outer s H) (hl:vs.length=ps.length) (r:Vals vs us)
  (x:InCallC s s.heap.objs.size (bindL (envOfC qual scope s.heap.objs.size f cd).kindOf (ps.zip us) fun _=>none) (cellsFrom (s.heap.objs.size+1) scope.names []) (bindC (envOfC qual scope s.heap.objs.size f cd).kindOf (ps.zip us) fun _=>none) s1) :
  Inv (cxOf CX P w K mg base N qual scope f cd A outer s H E) [] (start N vs) H s1:=by
 have hpl:ps.length≤N.length:=by have:=congrArg List.length S.pre; rw [List.length_take] at this; omega
 obtain ⟨h1,tk,rfl,hk⟩:=x.done
 have noA:∀ b:Addr,b∉(cxOf CX P w K mg base N qual scope f cd A outer s H E).ex:=fun b z=>absurd (show b∈([]:List Addr) from z) (by simp)
 refine ⟨⟨e0.mod,S.kind,rfl,rfl,Nat.le_refl _,fun y z c h1 h2=>?_,fun y hy=>?_,fun y c _ h=>?_,fun _=>hd,Around.frames_deeper e0.frames,.inr ⟨rfl,rfl⟩,fun b z=>absurd z (noA b),e0.bs,e0.bsz,fun b _ _=>noA b,fun b z=>absurd z (noA b),e0.funs,e0.frf⟩,
  rfl,e0.bare,Un.kept hk,⟨_,x.toInCall.ns,fun i y v h1 h2 h3=>?_⟩,fun y c h=>⟨_,x.cell y c h⟩,e0.hok.fresh (Nat.le_refl _),fun y c h=>?_,fun p hp=>absurd (show p∈([]:List (Addr×Obj)) from hp) (by simp),e0.hok.kept hk,?_⟩
 ·exact name_of_addr x.apart (PySem.mem_of_lookup h1) (PySem.mem_of_lookup h2)
 ·have hy:scope.names.lookup y=some .cell∨scope.names.lookup y=some .free:=hy
  rcases hy with hy | hy
  ·exact cell_has hy
  ·exact absurd rfl (S.nofree _ (PySem.mem_of_lookup hy))
 ·exact Nat.le_of_lt (x.above y c (PySem.mem_of_lookup h))
 ·have hi:i < vs.length:=by
   unfold start at h2
   by_cases hi:i < vs.length
   ·exact hi
   ·rw [List.getElem?_append_right (by simpa using hi)] at h2
    rw [List.getElem?_replicate] at h2
    split at h2 <;> cases h2
  have ha:vs[i]? = some v:=by
   unfold start at h2
   rw [List.getElem?_append_left (by simpa using hi),List.getElem?_map] at h2
   cases e:vs[i]? with
   | none=>rw [e] at h2; cases h2
   | some a=>rw [e] at h2; cases h2; rfl
  obtain ⟨u,hu,rv⟩:=r.get ha
  have hp:ps[i]? = some y:=by
   rw [← S.pre,List.getElem?_take_of_lt (by omega)]; exact h1
  have ndP:ps.Nodup:=by rw [← S.pre]; exact S.nd.sublist (List.take_sublist _ _)
  refine ⟨u,rv,?_⟩
  rcases S.par y (List.mem_of_getElem? hp) with k | k
  ·exact .inl ⟨k,bindL_get ndP hp hu k⟩
  ·obtain ⟨c,e⟩:=cell_has (n:=s.heap.objs.size+1) k
   refine .inr ⟨.inl k,c,e,?_⟩
   have q:=x.cell y c e
   rw [bindC_get ndP hp hu (by show scope.names.lookup y≠_; rw [k]; decide)] at q
   exact q
 ·exact e0.hok.fresh (Nat.le_of_lt (x.above y c (PySem.mem_of_lookup h)))
 ·unfold start
  show _=N.length
  rw [List.length_append,List.length_map,List.length_replicate]
  omega
theorem fn_of {CX : CXT} {P : Program} {w : World} {K : W.Frag} {mg : Str → Option Value} {base : Heap} {k : Nat} {f : Addr} {name qual : Str} {params : Arguments} {body : List Stmt} {scope : Scope} {dV kV doc pm cdv ct oc : Value} {an od : Option Addr}
    {osl : Array (Option Value)} {N ps : List Str} {sp : Sp} (lk : K.lookup f = some ⟨oc, od, .func (W.fnOf name qual params body scope dV kV doc pm an cdv ct), osl⟩) (hcd : W.codeIn K cdv qual = true) (S : FnScope N ps scope)
    (len : ∀ vs H Q E, sp vs H Q E → vs.length = ps.length)
    (hbody : ∀ (A : Around) (outer : List Env) (s : Shared) (H : Hp) (vs : List V) (Q : VK) (E : XK), Room k (A.deeper (envOfC qual scope s.heap.objs.size f cdv)) → sp vs H Q E →
      ∃ t, PSs (cxOf CX P w K mg base N qual scope f cdv A outer s H E) body t ∧ t { nx := fun _ H' => Q .non H', rt := Q } (start N vs) H) :
    FnOk P w K mg base CX (k + 1) f (W.fnOf name qual params body scope dV kV doc pm an cdv ct) ps sp := by
  refine ⟨len, fun A outer s H args us vs Q E hr e0 hb r hsp => ?_⟩
  have hl := len _ _ _ _ hsp
  have KX : K.In s.heap := e0.mod.kin.keeps fun b o e => (e0.bs b o e).1
  have lim : s.heap.NoLimit := e0.mod.nolimit.keeps fun b o e => (e0.bs b o e).1
  have hkind : ∀ y ∈ ps.zip us, scope.names.lookup y.1 = some .local ∨ (scope.names.lookup y.1 = some .cell ∧ ((cellsFrom (s.heap.objs.size + 1) scope.names []).lookup y.1).isSome = true) := fun ⟨n, v⟩ hy => by
    rcases S.par n (List.of_mem_zip hy).1 with q | q
    · exact .inl q
    · exact .inr ⟨q, W.cellsFrom_some _ _ _ (.inl q)⟩
  refine codeAny_call_function hr.depth (KX _ _ lk) rfl S.co S.gen rfl (W.codeRec_of KX hcd) (hb _ _ _ _ ?_)
  refine wpAny_newFunctionEnv_cells S.kind hkind fun env he s1 x => ?_
  subst he
  refine ⟨lim.keeps x.toInCall.keep, codeAny_func ?_⟩
  obtain ⟨t, ht, hq⟩ := hbody A outer s H vs Q E (hr.deeper _) hsp
  have I : Inv (cxOf CX P w K mg base N qual scope f cdv A outer s H E) [] (start N vs) H s1 := inv_start S hr.hd e0 hl r x
  refine wpAny_mono (ht [] s1 (start N vs) H _ I hq) (fun fl s' hs => ?_) fun e s' hs => hs
  have fin : ∀ {σ' : St} {H' : Hp} {v : V} {u : Value}, Inv (cxOf CX P w K mg base N qual scope f cdv A outer s H E) [] σ' H' s' → RelV v u → Q v H' → CE outer P w H s Q u s' :=
    fun {σ' H' v u} J rv q => ⟨v, H', J.os, J.bare, J.base, J.hok, rv, q⟩
  cases fl with
  | ret u =>
    obtain ⟨v, σ', H', J, rv, q⟩ := hs
    exact fin J rv q
  | next =>
    obtain ⟨σ', H', J, q⟩ := hs
    exact fin (v := V.non) (u := Value.none) J rfl q
  | brk =>
    obtain ⟨_, _, _, q⟩ := hs
    exact False.elim q
  | cont =>
    obtain ⟨_, _, _, q⟩ := hs
    exact False.elim q
end L2
namespace L2
open PySem PySem.Spec PyProof.Rows
section
variable {X:Cx} {x:Str} {p pos:Pos} {e:Expr} {es:List Expr} {t:TA} {id T:String} {r:List V→Hp→VK→Prop}
def tCB (r:List V→Hp→VK→Prop) (t:TA):TE:=fun σ H Q=>t σ H fun vs H1=>r vs H1 Q
theorem pe_callB (hc:CallR X (.builtin id) r) (hg:Gl X x) (hm:X.mg x=none) (hv:bootBuiltins x=some (.builtin id)) (ha:PA X (e :: es) t) (hn:x≠"__name__":=by decide) (hdb:(x==("__debug__":Str))=false:=by decide)
  (he:starEach (e :: es) X.env=(false,eval e X.env) :: starEach es X.env:=by rfl) (hpl:(backTo pos (starEach es X.env)).any (·.1)=false:=by rfl):PE X (.Call (.Name x p) (e :: es) [] pos) (tCB r t):=by
 intro pins s σ H Q I h
 refine wpAny_Call_Name_kw (ld_blt I hg hm hv ?_ hn hdb)
 exact PyProof.Rows.callWith_builtin1 (thn (ha pos pins s σ H _ I h) fun us s1 ⟨vs,H1,I1,r1,q1⟩=>hc pins s1 σ H1 vs us Q I1 r1 q1) he hpl
theorem pe_callTy (hc:CallR X (.type T) r) (hg:Gl X x) (hm:X.mg x=none) (hv:bootBuiltins x=some (.type T)) (ha:PA X (e :: es) t) (hn:x≠"__name__":=by decide) (hdb:(x==("__debug__":Str))=false:=by decide)
  (he:starEach (e :: es) X.env=(false,eval e X.env) :: starEach es X.env:=by rfl) (hpl:(backTo pos (starEach es X.env)).any (·.1)=false:=by rfl):PE X (.Call (.Name x p) (e :: es) [] pos) (tCB r t):=by
 intro pins s σ H Q I h
 refine wpAny_Call_Name_kw (ld_blt I hg hm hv ?_ hn hdb)
 exact PyProof.Rows.callWith_type1 (thn (ha pos pins s σ H _ I h) fun us s1 ⟨vs,H1,I1,r1,q1⟩=>hc pins s1 σ H1 vs us Q I1 r1 q1) he hpl
end
end L2
namespace HT
open PySem PyProof.Rows
section
open PySem.SeqAt
open PySem.AutoSeq1 (wpAny_loadPart')
open PySem.MeetsSeq PySem.MeetsSeq2 PySem.MeetsSeq3
end
section
variable {prog:Program} {w:World} {A:Around} {E:Value→Shared→Prop} {s:Shared}
theorem cat_tup {t b:Addr} {vs ws:List Value} {Q:Value→Shared→Prop} (ht:IsTup s.heap t vs.toArray) (hb:IsTup s.heap b ws.toArray) (hv:vs≠[])
  (h1:ws=[]→Q (.ref t) s) (h2:ws≠[]→Q (.ref s.heap.objs.size) { s with heap:=s.heap.push { cls:=.type "tuple",data:=.seq (vs++ws).toArray } })
  (hsz:vs.length+ws.length≤sizeLine):wpAny (model prog w) A (binaryOp .Add (.ref t) (.ref b)) Q E s:=by
 obtain ⟨⟨cls,dd,data,sl⟩,ho,hc,n,hd⟩:=id ht
 obtain ⟨⟨cls2,dd2,data2,sl2⟩,ho2,hc2,n2,hd2⟩:=id hb
 simp only at hc hd hc2 hd2
 subst hc hd hc2 hd2
 have e:vs.toArray++ws.toArray=(vs++ws).toArray:=by simp
 by_cases hw:ws=[]
 ·exact concat_meets ⟨_,ho,rfl⟩ ⟨_,ho2,rfl⟩ noFill_tuple_add seq_tuple_add PySem.F.slot_tuple_add PySem.F.entry_tuple_add (PySem.F.args_tuple_add_2 _ _)
   (tuple_addW1 t b vs.toArray ws.toArray n n2 dd dd2 sl sl2 (by simpa using hv) (by simp [hw])) ⟨ho,ho2,h1 hw⟩
 ·refine concat_meets ⟨_,ho,rfl⟩ ⟨_,ho2,rfl⟩ noFill_tuple_add seq_tuple_add PySem.F.slot_tuple_add PySem.F.entry_tuple_add (PySem.F.args_tuple_add_2 _ _)
   (tuple_addW2 t b vs.toArray ws.toArray n n2 dd dd2 sl sl2 (by simpa using hv) (by simpa using hw) (by rw [List.size_toArray,List.size_toArray]; exact hsz)) ⟨ho,ho2,?_⟩
  rw [e]
  exact h2 hw
def sIx (n d:Nat):Option Int→Nat
 | none=>d
 | some v=>if v < 0 then (v+(n:Int)).toNat else min v.toNat n
theorem sIx_le (n d:Nat) (hd:d≤n) (o:Option Int):sIx n d o≤n:=by
 cases o with
 | none=>exact hd
 | some v=>
  show (if v < 0 then (v+(n:Int)).toNat else min v.toNat n)≤n
  by_cases hv:v < 0
  ·rw [if_pos hv]; omega
  ·rw [if_neg hv]; exact Nat.min_le_right _ _
theorem clip_eq (v:Int) (n d:Nat):(if v < 0 then max (v+(n:Int)) 0 else min v (n:Int))=((sIx n d (some v):Nat):Int):=by
 show (if v < 0 then max (v+(n:Int)) 0 else min v (n:Int))=(((if v < 0 then (v+(n:Int)).toNat else min v.toNat n):Nat):Int)
 by_cases hv:v < 0
 ·simp only [if_pos hv]; omega
 ·simp only [if_neg hv]; omega
theorem adjust_gen (lo hi:Option Int) (n:Nat):Builtin.Slice.sliceAdjust lo hi 1 (n:Int)=(((sIx n 0 lo:Nat):Int),((sIx n n hi:Nat):Int)):=by
 have h1:¬ ((1:Int) < 0):=by omega
 unfold Builtin.Slice.sliceAdjust
 simp only [h1,if_false]
 refine Prod.ext ?_ ?_
 ·cases lo with
  | none=>rfl
  | some v=>exact clip_eq v n 0
 ·cases hi with
  | none=>rfl
  | some v=>exact clip_eq v n n
theorem places_gen (i j:Nat):Builtin.Slice.slicePlaces (i:Int) (j:Int) 1=j-i:=by
 unfold Builtin.Slice.slicePlaces
 have h1:(1:Int) > 0:=by omega
 simp only [h1,if_true,Int.ediv_one]
 split <;> omega
theorem slicePart_ {v:Value} {o:Option Int} {Q:Option Int→Shared→Prop} (p:IsPart v o) (h:Q o s):wpAny (model prog w) A (Builtin.Slice.slicePartIndex v) Q E s:=by
 cases p with
 | none=>exact slicePart_none h
 | int i t=>exact slicePart_int h
theorem sliceApplied_gen {sl:Addr} {vl vu:Value} {lo hi:Option Int} {n:Nat} {Q:Int×Int×Nat→Shared→Prop} (hs:s.heap.IsSliceOf sl vl vu .none) (pl:IsPart vl lo) (pu:IsPart vu hi)
  (h:Q (((sIx n 0 lo:Nat):Int),1,sIx n n hi-sIx n 0 lo) s):wpAny (model prog w) A (Builtin.Slice.sliceApplied (.ref sl) (pure (n:Int))) Q E s:=by
 obtain ⟨os,hos,hcs,hds⟩:=id hs
 unfold Builtin.Slice.sliceApplied Builtin.Slice.sliceFields
 refine wpAny_bind (wpAny_bind (wpAny_field hos hds (x:=vl) rfl (wpAny_bind (wpAny_field hos hds (x:=vu) rfl (wpAny_bind (wpAny_field hos hds (x:=.none) rfl (wpAny_pure ?_)))))))
 refine wpAny_bind (slicePart_none ?_)
 show wpAny _ _ (if ((1:Int)==0)=true then _ else _) _ _ s
 rw [if_neg (by decide)]
 refine wpAny_bind (slicePart_ pl (wpAny_bind (slicePart_ pu (wpAny_bind (wpAny_pure ?_)))))
 show wpAny _ _ (match Builtin.Slice.sliceAdjust lo hi 1 (n:Int) with | (lo,hi)=>pure (lo,(1:Int),Builtin.Slice.slicePlaces lo hi 1)) _ _ s
 rw [adjust_gen lo hi n]
 show wpAny _ _ (pure (((sIx n 0 lo:Nat):Int),(1:Int),Builtin.Slice.slicePlaces ((sIx n 0 lo:Nat):Int) ((sIx n n hi:Nat):Int) 1)) _ _ s
 rw [places_gen]
 exact wpAny_pure h
theorem pick_gen (xs:Array Value) (i k:Nat):((List.range k).filterMap fun (m:Nat)=>xs[((i:Int)+(m:Int)*1).toNat]?).toArray=((xs.toList.drop i).take k).toArray:=by
 have e:(fun (m:Nat)=>xs[((i:Int)+(m:Int)*1).toNat]?)=fun m=>xs[i+m]?:=by
  funext m
  have:((i:Int)+(m:Int)*1).toNat=i+m:=by omega
  rw [this]
 rw [e]
 have:=pick_run xs i k
 rw [List.filterMap_map] at this
 have e2:((fun x=>xs[x]?) ∘ fun x=>i+x)=fun m=>xs[i+m]?:=rfl
 rw [e2] at this
 rw [this]
theorem getItem_tuple_cut {t sl:Addr} {items:Array Value} {vl vu:Value} {lo hi:Option Int} {Q:Value→Shared→Prop} (ht:IsTup s.heap t items) (hs:s.heap.IsSliceOf sl vl vu .none) (pl:IsPart vl lo) (pu:IsPart vu hi)
  (hw:¬ (sIx items.size 0 lo=0∧sIx items.size items.size hi=items.size))
  (h:Q (.ref s.heap.objs.size) { s with heap:=s.heap.push { cls:=.type "tuple",data:=.seq ((items.toList.drop (sIx items.size 0 lo)).take (sIx items.size items.size hi-sIx items.size 0 lo)).toArray } })
  (hsz:items.size≤sizeLine):wpAny (model prog w) A (getItem (.ref t) (.ref sl)) Q E s:=by
 have htake:sizeOk (.seq ((items.toList.drop (sIx items.size 0 lo)).take (sIx items.size items.size hi-sIx items.size 0 lo)).toArray):=by
  show ((items.toList.drop (sIx items.size 0 lo)).take (sIx items.size items.size hi-sIx items.size 0 lo)).toArray.size≤sizeLine
  rw [List.size_toArray,List.length_take,List.length_drop,Array.length_toList]
  omega
 have hj:sIx items.size items.size hi≤items.size:=sIx_le _ _ (Nat.le_refl _) hi
 obtain ⟨os,hos,hcs,hds⟩:=id hs
 have hTs:s.TypeIs (.ref sl) "slice":=⟨os,hos,hcs⟩
 unfold getItem
 try with_reducible refine wpAny_holding ?_
 first | refine wpAny_bind (wpAny_pure ?_) | skip
 refine wpAny_bind (wpAny_sequenceKey ht.typeIs (by decide) ?_)
 refine wpAny_bind (wpAny_callSpecial?_slot (name:=Str.ofString "__getitem__") ht.typeIs PyProof.Rows.slot_tuple_getitem
  (wpAny_call_entry PyProof.Rows.slot_tuple_getitem ht.typeIs entry_tuple_getitem ?_ (args_tuple_getitem _ _)))
 show wpAny _ _ (Builtin.Tuple.tupleItemsOf (.ref t) >>= _) _ _ s
 refine wpAny_bind (tupleItemsOf_ ht ?_)
 refine wpAny_bind (wpAny_typeOf hTs ?_)
 rw [if_pos (by decide)]
 refine wpAny_bind (sliceApplied_gen hs pl pu ?_)
 have hno:¬ ((((sIx items.size 0 lo:Nat):Int)==0&&(1:Int)==1&&(sIx items.size items.size hi-sIx items.size 0 lo)==items.size)=true):=by
  intro q
  rw [Bool.and_eq_true,Bool.and_eq_true] at q
  have q1:((sIx items.size 0 lo:Nat):Int)=0:=eq_of_beq q.1.1
  have q2:sIx items.size items.size hi-sIx items.size 0 lo=items.size:=eq_of_beq q.2
  exact hw ⟨by omega,by omega⟩
 show wpAny _ _ (if (((sIx items.size 0 lo:Nat):Int)==0&&(1:Int)==1&&(sIx items.size items.size hi-sIx items.size 0 lo)==items.size)=true then _ else _) _ _ s
 rw [if_neg hno,pick_gen]
 first
  | exact wpAny_bind (m:=Builtin.Tuple.tupleExact _) (wpAny_newObj_type (wpAny_pure ⟨_,rfl,wpAny_pure h⟩) htake)
  | exact wpAny_bind (m:=Builtin.Tuple.tupleExact _) (wpAny_newObj_type (wpAny_bind (wpAny_pure (wpAny_pure ⟨_,rfl,wpAny_pure h⟩))) htake)
  | exact wpAny_bind (wpAny_bind (m:=Builtin.Tuple.tupleExact _) (wpAny_newObj_type (wpAny_pure (wpAny_pure ⟨_,rfl,wpAny_pure h⟩)) htake))
  | exact wpAny_bind (wpAny_bind (m:=Builtin.Tuple.tupleExact _) (wpAny_newObj_type (wpAny_pure ⟨_,rfl,wpAny_pure h⟩) htake))
end
end HT
namespace L2
open PySem PySem.Spec PyProof.Rows
abbrev TO:=St→Hp→(Option Int→Hp→Prop)→Prop
def PO (X:Cx) (e:Option Expr) (t:TO):Prop:=
 ∀ (pins:List (Addr×Obj)) (s:Shared) (σ:St) (H:Hp) (Q:Option Int→Hp→Prop),Inv X pins σ H s→t σ H Q→
  wpAny (model X.prog X.w) X.A (evalPart e X.env) (fun u s'=>∃ o H',Inv X pins σ H' s'∧IsPart u o∧Q o H') X.xe s
def tNoPart:TO:=fun _ H Q=>Q none H
def tPart (t:TE):TO:=fun σ H Q=>t σ H fun x H1=>∃ i,x=.int i∧Q (some i) H1
section
variable {X:Cx} {e:Expr} {te:TE} {lo hi:Option Expr} {tl th:TO} {pos p2:Pos}
theorem po_none:PO X none tNoPart:=by
 intro pins s σ H Q I h
 rw [evalPart_none]
 exact wpAny_pure ⟨none,H,I,.none,h⟩
theorem po_some (h:PE X e te):PO X (some e) (tPart te):=by
 intro pins s σ H Q I hw
 rw [evalPart_some]
 refine thn (h pins s σ H _ I hw) fun u s1 ⟨x,H1,I1,r1,q1⟩=>?_
 obtain ⟨i,rfl,q⟩:=q1
 obtain ⟨t,rfl⟩:=r1
 exact ⟨some i,H1,I1,.int i t,q⟩
def SlR (X:Cx) (r:V→Option Int→Option Int→Hp→VK→Prop):Prop:=
 ∀ (pins:List (Addr×Obj)) (s:Shared) (σ:St) (H:Hp) (x:V) (v vl vu:Value) (lo hi:Option Int) (sl:Addr) (Q:VK),Inv X pins σ H s→RelV x v→s.heap.IsSliceOf sl vl vu .none→IsPart vl lo→IsPart vu hi→r x lo hi H Q→
  ∃ T id,typeLookup (.type T) "__getitem__"=pure (some (.builtin id))∧s.TypeIs v T∧wpAny (model X.prog X.w) X.A (getItem v (.ref sl)) (EP X pins σ Q) X.xe s
theorem SlR.or {r r':V→Option Int→Option Int→Hp→VK→Prop} (h:SlR X r) (h':SlR X r'):SlR X (fun x lo hi H Q=>r x lo hi H Q∨r' x lo hi H Q):=by
 intro pins s σ H x v vl vu lo hi sl Q I rx hs pl pu q
 rcases q with q | q
 ·exact h pins s σ H x v vl vu lo hi sl Q I rx hs pl pu q
 ·exact h' pins s σ H x v vl vu lo hi sl Q I rx hs pl pu q
def tSl (r:V→Option Int→Option Int→Hp→VK→Prop) (te:TE) (tl th:TO):TE:=fun σ H Q=>te σ H fun x H1=>tl σ H1 fun l H2=>th σ H2 fun u H3=>r x l u H3 Q
theorem pe_slice {r:V→Option Int→Option Int→Hp→VK→Prop} (hr:SlR X r) (he:PE X e te) (hl:PO X lo tl) (hu:PO X hi th):PE X (.Subscript e (.Slice lo hi none p2) pos) (tSl r te tl th):=by
 intro pins s σ H Q I h
 refine Subscript_ (thn (he pins s σ H _ I h) fun v s1 ⟨x,H1,I1,r1,q1⟩=>?_)
 refine wpAny_Slice (thn (hl pins s1 σ H1 _ I1 q1) fun vl s2 ⟨l,H2,I2,pl,q2⟩=>thn (hu pins s2 σ H2 _ I2 q2) fun vu s3 ⟨u,H3,I3,pu,q3⟩=>?_)
 rw [evalPart_none]
 refine wpAny_pure ?_
 have I4:Inv X pins σ H3 { s3 with heap:=s3.heap.push { cls:=.type "slice",data:=.fields #[vl,vu,.none] } }:=I3.kept (t':=s3.toks) fun b ob q=>Heap.get?_push_of_some _ q
 obtain ⟨T,id,hT,ht,hg⟩:=hr pins { s3 with heap:=s3.heap.push { cls:=.type "slice",data:=.fields #[vl,vu,.none] } } σ H3 x v vl vu l u s3.heap.objs.size Q I4 r1 (Heap.IsSliceOf.new ..) pl pu q3
 show wpAny (model X.prog X.w) X.A (subscriptTail e (.Slice lo hi none p2) v (.ref s3.heap.objs.size)) (EP X pins σ Q) X.xe { s3 with heap:=s3.heap.push { cls:=.type "slice",data:=.fields #[vl,vu,.none] } }
 exact tail_any (ops:=[.ref s3.heap.objs.size,v]) ht hT hg (by with_unfolding_all rfl)
def cutV (xs:List V) (lo hi:Option Int):List V:=(xs.drop (HT.sIx xs.length 0 lo)).take (HT.sIx xs.length xs.length hi-HT.sIx xs.length 0 lo)
theorem cutV_length (xs:List V) (lo hi:Option Int):(cutV xs lo hi).length≤xs.length:=by
 unfold cutV
 rw [List.length_take,List.length_drop]
 omega
def rSlT (K:W.Frag):V→Option Int→Option Int→Hp→VK→Prop:=fun x lo hi H Q=>∃ a xs,x=.ref a∧SqT K H a xs∧
 ¬ (HT.sIx xs.length 0 lo=0∧HT.sIx xs.length xs.length hi=xs.length)∧∀ p,H p=none→Q (.ref p) (upd H p (.tup (cutV xs lo hi)))
theorem sl_tup:SlR X (rSlT X.K):=by
 intro pins s σ H x v vl vu lo hi sl Q I rx hs pl pu h
 obtain ⟨a,xs,rfl,hx,hw,q⟩:=h
 cases rx
 obtain ⟨its,r,ht,hz⟩:=I.tuple hx
 have hlen:its.toArray.size=xs.length:=by rw [List.size_toArray]; exact r.length.symm
 refine ⟨"tuple",_,PyProof.Rows.slot_tuple_getitem.lookup,ht.typeIs,?_⟩
 refine HT.getItem_tuple_cut ht hs pl pu (by rw [hlen]; exact hw) ?_ (by rw [hlen]; exact hz)
 rw [hlen]
 refine ⟨.ref s.heap.objs.size,_,I.laid (t':=s.toks) (o:=.tup (cutV xs lo hi)) (fun b ob q=>Heap.get?_push_of_some _ q) (Nat.le_refl _) ?_,rfl,q _ (I.hok.fresh (Nat.le_refl _))⟩
 exact ⟨Nat.le_trans (cutV_length xs lo hi) hz,_,(r.drop (HT.sIx xs.length 0 lo)).take (HT.sIx xs.length xs.length hi-HT.sIx xs.length 0 lo),IsTup.new _ _⟩
def rCatT (K:W.Frag):R2:=fun x y H Q=>∃ a b xs ys,x=.ref a∧y=.ref b∧SqT K H a xs∧SqT K H b ys∧xs≠[]∧xs.length+ys.length≤sizeLine∧
 (ys=[]→Q (.ref a) H)∧(ys≠[]→∀ p,H p=none→Q (.ref p) (upd H p (.tup (xs++ys))))
theorem Vals.nil_iff {xs:List V} {us:List Value} (r:Vals xs us):us=[]↔xs=[]:=by
 cases r with
 | nil=>simp
 | cons _ _=>simp
theorem op_catT:OpR X (binaryOp .Add) (rCatT X.K):=by
 intro pins s σ H x y v u Q I rx ry h
 obtain ⟨a,b,xs,ys,rfl,rfl,ha,hb,hx,hz,q1,q2⟩:=h
 cases rx
 cases ry
 obtain ⟨its,r1,p1,_⟩:=I.tuple ha
 obtain ⟨its2,r2,p2,_⟩:=I.tuple hb
 refine HT.cat_tup p1 p2 (fun z=>hx (r1.nil_iff.mp z)) (fun z=>⟨.ref a,H,I,rfl,q1 (r2.nil_iff.mp z)⟩) (fun z=>?_) (by rw [← r1.length,← r2.length]; exact hz)
 refine ⟨.ref s.heap.objs.size,_,I.laid (t':=s.toks) (o:=.tup (xs++ys)) (fun b ob q=>Heap.get?_push_of_some _ q) (Nat.le_refl _) ?_,rfl,q2 (fun w=>z (r2.nil_iff.mpr w)) _ (I.hok.fresh (Nat.le_refl _))⟩
 exact ⟨by rw [List.length_append]; exact hz,_,r1.append r2,IsTup.new _ _⟩
end
end L2
namespace L2
open PySem PySem.Spec PyProof.Rows
def ixN (n:Nat) (i:Int):Option Nat:=if 0≤i then (if i < n then some i.toNat else none) else if -(n:Int)≤i then some (i+n).toNat else none
def atI {α:Type} (xs:List α) (i:Int):Option α:=(ixN xs.length i).bind fun j=>xs[j]?
theorem ixN_seq {n:Nat} {i:Int} {j:Nat} (h:ixN n i=some j):seqIndex? i n=some j∧j < n∧-(n:Int)≤i∧i < n:=by
 unfold ixN at h
 by_cases h0:0≤i
 ·rw [if_pos h0] at h
  by_cases h1:i < n
  ·rw [if_pos h1] at h
   have e:i.toNat=j:=Option.some.inj h
   exact ⟨by rw [seqIndex_of h0 h1,e],by omega,by omega,h1⟩
  ·rw [if_neg h1] at h; cases h
 ·rw [if_neg h0] at h
  by_cases h1:-(n:Int)≤i
  ·rw [if_pos h1] at h
   have e:(i+n).toNat=j:=Option.some.inj h
   exact ⟨by rw [seqIndex_neg (by omega) h1,e],by omega,h1,by omega⟩
  ·rw [if_neg h1] at h; cases h
theorem atI_get {α:Type} {xs:List α} {i:Int} {v:α} (h:atI xs i=some v):∃ j,seqIndex? i xs.length=some j∧xs[j]? = some v∧j < xs.length∧-(xs.length:Int)≤i∧i < xs.length:=by
 unfold atI at h
 cases e:ixN xs.length i with
 | none=>rw [e] at h; cases h
 | some j=>
  rw [e] at h
  obtain ⟨h1,h2,h3,h4⟩:=ixN_seq e
  exact ⟨j,h1,h,h2,h3,h4⟩
def PlainIx (b:Expr):Prop:=∀ o i,subscripted b false o i=operate [o,i] (getItem o i)
def IxR (X:Cx) (r:R2):Prop:=
 ∀ (value slice:Expr) (pins:List (Addr×Obj)) (s:Shared) (σ:St) (H:Hp) (x y:V) (v u:Value) (Q:VK),Inv X pins σ H s→RelV x v→RelV y u→r x y H Q→
  subscripted slice false v u=operate [v,u] (getItem v u)→wpAny (model X.prog X.w) X.A (subscriptTail value slice v u) (EP X pins σ Q) X.xe s
def MtR (X:Cx) (id:String) (r:V→List V→Hp→VK→Prop):Prop:=
 ∀ (pins:List (Addr×Obj)) (s:Shared) (σ:St) (H:Hp) (x:V) (xs:List V) (v:Value) (us:List Value) (Q:VK),Inv X pins σ H s→RelV x v→Vals xs us→r x xs H Q→
  wpAny (model X.prog X.w) X.A (call (.builtin id) (v :: us)) (EP X pins σ Q) X.xe s
section
variable {X:Cx} {a b:Expr} {ta tb:TE} {pos:Pos}
theorem IxR.or {r r':R2} (h:IxR X r) (h':IxR X r'):IxR X (fun x y H Q=>r x y H Q∨r' x y H Q):=by
 intro value slice pins s σ H x y v u Q I rx ry q hs
 rcases q with q | q
 ·exact h value slice pins s σ H x y v u Q I rx ry q hs
 ·exact h' value slice pins s σ H x y v u Q I rx ry q hs
theorem pe_ix {r:R2} (hr:IxR X r) (ha:PE X a ta) (hb:PE X b tb) (hs:PlainIx b):PE X (.Subscript a b pos) (tOp r ta tb):=by
 intro pins s σ H Q I h
 exact Subscript_ (binT ha hb I h fun v u s2 x y H2 I2 rx ry q=>hr a b pins s2 σ H2 x y v u Q I2 rx ry q (hs _ _))
def rIxL (K:W.Frag):R2:=fun x y H Q=>∃ p xs i v,x=.ref p∧y=.int i∧SqL K H p xs∧atI xs i=some v∧Q v H
def rIxT (K:W.Frag):R2:=fun x y H Q=>∃ p xs i v,x=.ref p∧y=.int i∧SqT K H p xs∧atI xs i=some v∧Q v H
def rIxS:R2:=fun x y H Q=>∃ z i c,x=.str z∧y=.int i∧z.length≤sizeLine∧atI z.cps.toList i=some c∧Q (.str ⟨#[c]⟩) H
theorem ix_list:IxR X (rIxL X.K):=by
 intro value slice pins s σ H x y v u Q I rx ry h hs
 obtain ⟨p,xs,i,z,rfl,rfl,hq,he,q⟩:=h
 cases rx
 obtain ⟨t,rfl⟩:=ry
 obtain ⟨its,r,pl,hz⟩:=I.list hq
 obtain ⟨j,h1,h2,h3,h4,h5⟩:=atI_get he
 obtain ⟨w,ew,rw'⟩:=r.get h2
 have hl:=r.length
 have hn:=line63
 have fin:EP X pins σ Q w s:=⟨z,H,I,rw',q⟩
 by_cases h0:0≤i
 ·have hj:i.toNat=j:=by
   rw [seqIndex_of h0 h5] at h1
   exact Option.some.inj h1
  exact item_listR pl.isList h0 (by omega) (by rw [hj]; simpa using ew) fin hs
 ·have hj:(i+(its.toArray.size:Int)).toNat=j:=by
   rw [seqIndex_neg (by omega) h4] at h1
   rw [List.size_toArray,← hl]
   exact Option.some.inj h1
  exact subscriptTail_builtinR (x:=w) pl.isList.typeIs slot_list_getitem.lookup
   (wpAny_getItem_list_neg (Q:=fun r s'=>r=w∧EP X pins σ Q r s') pl.isList (by omega) (by rw [List.size_toArray] <;> omega) (by omega) (by rw [hj]; simpa using ew) ⟨rfl,fin⟩) hs
theorem ix_tup:IxR X (rIxT X.K):=by
 intro value slice pins s σ H x y v u Q I rx ry h hs
 obtain ⟨p,xs,i,z,rfl,rfl,hq,he,q⟩:=h
 cases rx
 obtain ⟨t,rfl⟩:=ry
 obtain ⟨its,r,pl,hz⟩:=I.tuple hq
 obtain ⟨j,h1,h2,h3,h4,h5⟩:=atI_get he
 obtain ⟨w,ew,rw'⟩:=r.get h2
 have hl:=r.length
 have hn:=line63
 have fin:EP X pins σ Q w s:=⟨z,H,I,rw',q⟩
 exact subscriptTail_builtinR (x:=w) pl.typeIs slot_tuple_getitem.lookup
  (getItem_tuple (j:=j) (Q:=fun r s'=>r=w∧EP X pins σ Q r s') pl (by omega) (by omega) (by rw [List.size_toArray,← hl]; exact h1) (by simpa using ew) ⟨rfl,fin⟩) hs
theorem ix_str:IxR X rIxS:=by
 intro value slice pins s σ H x y v u Q I rx ry h hs
 obtain ⟨z,i,c,rfl,rfl,hz,he,q⟩:=h
 obtain ⟨t,rfl⟩:=rx
 obtain ⟨t',rfl⟩:=ry
 obtain ⟨j,h1,h2,h3,h4,h5⟩:=atI_get he
 have hl:z.cps.toList.length=z.length:=by simp [Str.length]
 rw [hl] at h1 h4 h5
 have hn:=line63
 exact tail_any (typeIs_str s z t) slot_str_getitem.lookup (getItem_str (c:=c) (by
  have e1:decide (i < -(2 ^ 63:Int))=false:=decide_eq_false (by omega)
  have e2:decide (i≥2 ^ 63)=false:=decide_eq_false (by omega)
  rw [e1,e2,Bool.or_false]) (by rw [h1]; simpa using h2) ⟨.str ⟨#[c]⟩,H,I.tok _,⟨_,rfl⟩,q⟩) hs
def rIx (K:W.Frag):R2:=fun x y H Q=>rIxL K x y H Q∨rIxT K x y H Q∨rIxS x y H Q
theorem ix_seq:IxR X (rIx X.K):=ix_list.or (ix_tup.or ix_str)
theorem mapSeq_set (its:List Value) (n j:Nat) (u:Value):Obj.mapSeq (·.setIfInBounds j u) { cls:=.type "list",data:=.seq its.toArray n }={ cls:=.type "list",data:=.seq (its.set j u).toArray n }:=by
 simp [Obj.mapSeq]
theorem Inv.lst {pins:List (Addr×Obj)} {σ:St} {H:Hp} {s:Shared} {p:Addr} {xs:List V} (I:Inv X pins σ H s) (h:H p=some (.lst xs)) :
  ∃ (its:List Value) (n:Nat),Vals xs its∧s.heap.get? p=some { cls:=.type "list",data:=.seq its.toArray n }∧xs.length≤sizeLine:=by
 obtain ⟨z,its,n,r,e⟩:=I.hok p _ h
 exact ⟨its,n,r,e,z⟩
theorem Inv.lstUpd {pins:List (Addr×Obj)} {σ:St} {H:Hp} {s:Shared} {p:Addr} {xs ys:List V} {its its':List Value} {n n':Nat} {f:Obj→Obj} (I:Inv X pins σ H s) (h:H p=some (.lst xs))
  (ho:s.heap.get? p=some { cls:=.type "list",data:=.seq its.toArray n }) (hf:f { cls:=.type "list",data:=.seq its.toArray n }={ cls:=.type "list",data:=.seq its'.toArray n' }) (r:Vals ys its') (hz:ys.length≤sizeLine) (t:Nat) :
  Inv X pins σ (upd H p (.lst ys)) { s with heap:=s.heap.update p f,toks:=t }:=by
 have e:(s.heap.update p f).get? p=some { cls:=.type "list",data:=.seq its'.toArray n' }:=by
  rw [Heap.get?_update_self f ho (by rw [hf] <;> rfl),hf]
 refine I.write (x:=p) (e:=p) (by rw [h]; trivial) (.inl rfl) (fun b u hb q=>(Heap.get?_update_other _ _ (Ne.symm hb)).trans q) ⟨_,e⟩ ?_
 exact ⟨hz,its',n',r,e⟩
def rSetL:V→V→V→Hp→(Hp→Prop)→Prop:=fun o i v H Q=>∃ p xs k j,o=.ref p∧i=.int k∧H p=some (.lst xs)∧ixN xs.length k=some j∧Q (upd H p (.lst (xs.set j v)))
theorem set_list:PSet X rSetL:=by
 intro pins s σ H o i v ov iv u Q I ro ri rv h
 obtain ⟨p,xs,k,j,rfl,rfl,hp,hj,q⟩:=h
 cases ro
 obtain ⟨t,rfl⟩:=ri
 obtain ⟨its,n,r,ho,hz⟩:=I.lst hp
 obtain ⟨h1,h2,h3,h4⟩:=ixN_seq hj
 have hl:=r.length
 have hn:=line63
 have I':Inv X pins σ (upd H p (.lst (xs.set j v))) { s with heap:=s.heap.update p (Obj.mapSeq (·.setIfInBounds j u)) }:=
  I.lstUpd hp ho (mapSeq_set its n j u) (r.set rv j) (by rw [List.length_set]; exact hz) s.toks
 by_cases h0:0≤k
 ·have hk:k.toNat=j:=by
   rw [seqIndex_of h0 h4] at h1
   exact Option.some.inj h1
  exact W.ki_setAt ho h0 (by omega) (by rw [List.size_toArray,← hl]; exact h4) (by rw [hk]; exact ⟨_,I',q⟩)
 ·have hk:(k+(its.toArray.size:Int)).toNat=j:=by
   rw [seqIndex_neg (by omega) h3] at h1
   rw [List.size_toArray,← hl]
   exact Option.some.inj h1
  exact W.ki_setBack ho (by omega) (by rw [List.size_toArray,← hl]; exact h3) (by omega) (by rw [hk]; exact ⟨_,I',q⟩)
theorem slice_bounds (lo hi:Option Int) (n:Nat):(sliceBounds lo hi none n).1=((HT.sIx n 0 lo:Nat):Int)∧(sliceBounds lo hi none n).2.1=((HT.sIx n n hi:Nat):Int)∧(sliceBounds lo hi none n).2.2=1:=by
 refine ⟨?_,?_,rfl⟩
 ·cases lo with
  | none=>simp [sliceBounds,HT.sIx]
  | some i=>
   simp only [sliceBounds,HT.sIx,Option.getD_none,show (1:Int) > 0 by decide,if_true]
   by_cases h:i < 0
   ·simp only [h,if_true] <;> omega
   ·simp only [h,if_false] <;> omega
 ·cases hi with
  | none=>simp [sliceBounds,HT.sIx]
  | some i=>
   simp only [sliceBounds,HT.sIx,Option.getD_none,show (1:Int) > 0 by decide,if_true]
   by_cases h:i < 0
   ·simp only [h,if_true] <;> omega
   ·simp only [h,if_false] <;> omega
theorem slicePick_cut (its:List Value) (lo hi:Option Int):slicePick its.toArray lo hi none=((its.drop (HT.sIx its.length 0 lo)).take (HT.sIx its.length its.length hi-HT.sIx its.length 0 lo)).toArray:=by
 obtain ⟨h1,h2,h3⟩:=slice_bounds lo hi its.toArray.size
 unfold slicePick
 rw [h1,h2,h3]
 simp only [sliceRange_one,pick_run,List.size_toArray] <;> rfl
def rSlL (K:W.Frag):V→Option Int→Option Int→Hp→VK→Prop:=fun x lo hi H Q=>∃ a xs,x=.ref a∧SqL K H a xs∧∀ p,H p=none→Q (.ref p) (upd H p (.lst (cutV xs lo hi)))
theorem sl_list:SlR X (rSlL X.K):=by
 intro pins s σ H x v vl vu lo hi sl Q I rx hs pl pu h
 obtain ⟨a,xs,rfl,hx,q⟩:=h
 cases rx
 obtain ⟨its,r,ht,hz⟩:=I.list hx
 have hlen:=r.length
 refine ⟨"list",_,slot_list_getitem.lookup,ht.isList.typeIs,?_⟩
 refine wpAny_getItem_list_slice ht.isList hs pl pu .none (by simp) ?_ (by rw [List.size_toArray] <;> omega)
 rw [slicePick_cut,← hlen]
 refine ⟨.ref s.heap.objs.size,_,I.laid (t':=s.toks) (o:=.lst (cutV xs lo hi)) (fun b ob q=>Heap.get?_push_of_some _ q) (Nat.le_refl _) ?_,rfl,q _ (I.hok.fresh (Nat.le_refl _))⟩
 exact ⟨Nat.le_trans (cutV_length xs lo hi) hz,_,0,(r.drop (HT.sIx xs.length 0 lo)).take (HT.sIx xs.length xs.length hi-HT.sIx xs.length 0 lo),Heap.get?_push_size _ rfl⟩
theorem op_notIn_str:OpR X (compareOp .NotIn) (fun x y H Q=>∃ i j,x=.str i∧y=.str j∧Q (.bl (!(!(Builtin.Str.occurrences j i 0 j.length 1).isEmpty))) H):=by
 intro pins s σ H x y v u Q I rx ry h
 obtain ⟨i,j,rfl,rfl,q⟩:=h
 obtain ⟨t,rfl⟩:=rx
 obtain ⟨t',rfl⟩:=ry
 exact notIn_str ⟨.bl _,H,I,rfl,q⟩
theorem CallR.or {f:Value} {r r':List V→Hp→VK→Prop} (h:CallR X f r) (h':CallR X f r'):CallR X f (fun xs H Q=>r xs H Q∨r' xs H Q):=by
 intro pins s σ H xs us Q I rs q
 rcases q with q | q
 ·exact h pins s σ H xs us Q I rs q
 ·exact h' pins s σ H xs us Q I rs q
theorem call_list_of:CallR X (.type "list") (fun xs H Q=>∃ p ys,xs=[.ref p]∧(SqL X.K H p ys∨SqT X.K H p ys)∧∀ l,H l=none→Q (.ref l) (upd H l (.lst ys))):=by
 intro pins s σ H xs us Q I r h
 obtain ⟨p,ys,rfl,hq,q⟩:=h
 obtain ⟨u,rfl,rx⟩:=vals1 r
 cases rx
 have fin:∀ (its:List Value),Vals ys its→ys.length≤sizeLine→∀ (h':Heap) (c':Nat),(∀ b o',s.heap.get? b=some o'→h'.get? b=some o')→
   h'.get? s.heap.objs.size=some { cls:=.type "list",dict:=none,data:=.seq its.toArray c',slots:=#[] }→EP X pins σ Q (.ref s.heap.objs.size) { s with heap:=h' }:=fun its r' hz h' c' kp e=>
  ⟨.ref s.heap.objs.size,_,I.laid (t':=s.toks) kp (Nat.le_refl _) (show ObjOk X.prog X.w _ h' _ (.lst ys) from ⟨hz,its,c',r',e⟩),rfl,q _ (I.hok.fresh (Nat.le_refl _))⟩
 rcases hq with hq | hq
 ·obtain ⟨its,r',pl,hz⟩:=I.list hq
  have hlen:=r'.length
  obtain ⟨o,ho,hc,n,hd⟩:=pl.isList
  exact call_list_seq p (.inl rfl) ho hc hd (fun h' c' kp e=>fin its r' hz h' c' kp e) (by simp only [List.size_toArray] <;> omega)
 ·obtain ⟨its,r',pl,hz⟩:=I.tuple hq
  have hlen:=r'.length
  obtain ⟨o,ho,hc,n,hd⟩:=pl
  exact call_list_seq p (.inr rfl) ho hc hd (fun h' c' kp e=>fin its r' hz h' c' kp e) (by simp only [List.size_toArray] <;> omega)
theorem call_tuple_of:CallR X (.type "tuple") (fun xs H Q=>∃ p ys,xs=[.ref p]∧((SqL X.K H p ys∧∀ l,H l=none→Q (.ref l) (upd H l (.tup ys)))∨(SqT X.K H p ys∧Q (.ref p) H))):=by
 intro pins s σ H xs us Q I r h
 obtain ⟨p,ys,rfl,h⟩:=h
 obtain ⟨u,rfl,rx⟩:=vals1 r
 cases rx
 rcases h with ⟨hq,q⟩ | ⟨hq,q⟩
 ·obtain ⟨its,r',pl,hz⟩:=I.list hq
  have hlen:=r'.length
  refine call_tuple_list pl.isList (fun h' kp=>?_) (by simp only [List.size_toArray] <;> omega)
  have I1:Inv X pins σ H { s with heap:=h' }:=I.kept (t':=s.toks) kp
  have I2:Inv X pins σ (upd H h'.objs.size (.tup ys)) { s with heap:=h'.push { cls:=.type "tuple",data:=.seq its.toArray } }:=
   I1.laid (t':=s.toks) (fun b o e=>Heap.get?_push_of_some _ e) (Nat.le_refl _) (show ObjOk X.prog X.w _ _ _ (.tup ys) from ⟨hz,its,r',IsTup.new _ _⟩)
  exact ⟨.ref h'.objs.size,_,I2,rfl,q _ (I1.hok.fresh (Nat.le_refl _))⟩
 ·obtain ⟨its,r',pl,hz⟩:=I.tuple hq
  exact call_tuple_same pl ⟨.ref p,H,I,rfl,q⟩
def tyV (K:W.Frag) (T:String) (x:V) (H:Hp):Prop:=match x with
 | .str _=>T="str"
 | .int _=>T="int"
 | .ref p=>(T="list"∧∃ xs,SqL K H p xs)∨(T="tuple"∧∃ o,K.lookup p=some o∧o.cls=.type "tuple"∧o.dict=none)∨
   (T="dict"∧((∃ kvs,H p=some (.dK kvs))∨∃ kvs,H p=some (.dT kvs)))∨(T="set"∧∃ S n,H p=some (.set S n))
 | _=>False
theorem tyV_is {pins:List (Addr×Obj)} {σ:St} {H:Hp} {s:Shared} {T:String} {x:V} {v:Value} (I:Inv X pins σ H s) (r:RelV x v) (ty:tyV X.K T x H) :
  s.TypeIs v T∧∀ a,v=.ref a→∃ ob,s.heap.get? a=some ob∧ob.dict=none:=by
 cases x with
 | str z=>
  obtain ⟨t,rfl⟩:=r
  cases (show T="str" from ty)
  exact ⟨typeIs_str s z t,fun _ e=>nomatch e⟩
 | int i=>
  obtain ⟨t,rfl⟩:=r
  cases (show T="int" from ty)
  exact ⟨typeIs_int s i t,fun _ e=>nomatch e⟩
 | ref p=>
  cases r
  rcases ty with ⟨rfl,xs,hq⟩ | ⟨rfl,o,hk,hc,hd⟩ | ⟨rfl,hk⟩ | ⟨rfl,S,n,hk⟩
  ·obtain ⟨its,_,pl,_⟩:=I.list hq
   refine ⟨pl.isList.typeIs,fun a e=>?_⟩
   cases e
   obtain ⟨o,n,e,c,hd,_⟩:=pl
   exact ⟨o,e,hd⟩
  ·refine ⟨⟨o,I.kIn p o hk,hc⟩,fun a e=>?_⟩
   cases e
   exact ⟨o,I.kIn _ o hk,hd⟩
  ·have z:∃ o,s.heap.get? p=some o∧o.ExactDict:=by
    rcases hk with ⟨kvs,hk⟩ | ⟨kvs,hk⟩
    ·obtain ⟨_,_,_,_,o,_,_,e,ex,_⟩:=I.hok p _ hk
     exact ⟨o,e,ex⟩
    ·obtain ⟨_,_,_,_,o,_,_,e,ex,_⟩:=I.hok p _ hk
     exact ⟨o,e,ex⟩
   obtain ⟨o,e,ex⟩:=z
   refine ⟨⟨o,e,ex.1⟩,fun a e2=>?_⟩
   cases e2
   exact ⟨o,e,ex.2.1⟩
  ·obtain ⟨o,_,_,_,e,ex,_⟩:=I.hok p _ hk
   refine ⟨⟨o,e,ex.1⟩,fun a e2=>?_⟩
   cases e2
   exact ⟨o,e,ex.2.1⟩
 | _=>exact False.elim ty
def tBM0 (K:W.Frag) (T:String) (r:V→List V→Hp→VK→Prop) (to:TE):TE:=fun σ H Q=>to σ H fun x H1=>tyV K T x H1∧r x [] H1 Q
def tBM (K:W.Frag) (T:String) (r:V→List V→Hp→VK→Prop) (to:TE) (t:TA):TE:=fun σ H Q=>to σ H fun x H1=>tyV K T x H1∧t σ H1 fun xs H2=>r x xs H2 Q
variable {o e:Expr} {es:List Expr} {to:TE} {t:TA} {name:Str} {apos cpos:Pos} {T id:String} {r:V→List V→Hp→VK→Prop}
theorem pe_bm0 (pa:PlainAttrs T) (slot:Slot T name id) (hty:typeOf (.builtin id)=pure (.type "method_descriptor")) (hm:MtR X id r) (ho:PE X o to)
  (hbase:attributeBase o name X.env (eval o X.env)=eval o X.env:=by rfl) (hline:(apos.endLine==cpos.line)=true:=by rfl):PE X (.Call (.Attribute o name apos) [] [] cpos) (tBM0 X.K T r to):=by
 intro pins s σ H Q I h
 refine wpAny_Call_method0_late hbase hline (thn (ho pins s σ H _ I h) fun v s1 ⟨x,H1,I1,r1,ty,q1⟩=>?_)
 obtain ⟨h1,h2⟩:=tyV_is I1 r1 ty
 exact ⟨T,id,pa,slot,hty,h1,h2,Calls.callWith_builtin rfl (PySem.evalArgs_none (hm pins s1 σ H1 x [] v [] Q I1 r1 .nil q1))⟩
theorem pe_bm (pa : PlainAttrs T) (slot : Slot T name id) (hty : typeOf (.builtin id) = pure (.type "method_descriptor")) (hm : MtR X id r) (ho : PE X o to) (ha : PA X (e :: es) t)
    (hbase : attributeBase o name X.env (eval o X.env) = eval o X.env := by rfl)
    (hfew : ((backTo cpos (starEach (e :: es) X.env)).all (fun x => !x.1) && (backToKw cpos (keywordEach [] X.env)).all (fun x => x.1.isSome)
      && decide ((e :: es).length + ([] : List Keyword).length + (if ([] : List Keyword).isEmpty then 0 else 1) < 30)) = true := by rfl)
    (hline : (apos.endLine == cpos.line) = true := by rfl) (hs : starEach (e :: es) X.env = (false, eval e X.env) :: starEach es X.env := by rfl) (hplain : (backTo cpos (starEach es X.env)).any (·.1) = false := by rfl) :
    PE X (.Call (.Attribute o name apos) (e :: es) [] cpos) (tBM X.K T r to t) := by
  intro pins s σ H Q I h
  refine wpAny_Call_method_late hbase hfew hline rfl (thn (ho pins s σ H _ I h) fun v s1 ⟨x, H1, I1, r1, ty, q1⟩ => ?_)
  obtain ⟨h1, h2⟩ := tyV_is I1 r1 ty
  refine ⟨T, id, pa, slot, hty, h1, h2, ?_⟩
  have hA := ha cpos pins s1 σ H1 _ I1 q1
  rw [hs] at hA ⊢
  refine Calls.callWith_builtin (by show (false || (backTo cpos (starEach es X.env)).any (·.1)) = false; rw [hplain] <;> rfl) (Calls.evalArgs_plain ?_)
  exact thn hA fun us s2 ⟨vs, H2, I2, r2, q2⟩ => hm pins s2 σ H2 x vs v us Q I2 r1 r2 q2
end
end L2
namespace L2
open PySem PySem.Spec PyProof.Rows
def MtM (X:Cx) (id:String) (r:V→List V→Hp→VK→Prop):Prop:=
 ∀ (pins:List (Addr×Obj)) (s:Shared) (σ:St) (H:Hp) (x:V) (xs:List V) (v:Value) (us:List Value) (Q:VK),Inv X pins σ H s→RelV x v→Vals xs us→r x xs H Q→
  wpAny (model X.prog X.w) X.A (call (.builtin id) (v :: us)) (EP X pins σ Q) X.xe s
theorem Vals.one:∀ {x:V} {us:List Value},Vals [x] us→∃ u,us=[u]∧RelV x u
 | _,_,.cons r .nil=>⟨_,rfl,r⟩
theorem Vals.two:∀ {x y:V} {us:List Value},Vals [x,y] us→∃ u v,us=[u,v]∧RelV x u∧RelV y v
 | _,_,_,.cons r (.cons q .nil)=>⟨_,_,rfl,r,q⟩
theorem Vals.zero:∀ {us:List Value},Vals [] us→us=[]
 | _,.nil=>rfl
theorem Vals.dropLast {xs:List V} {us:List Value} (h:Vals xs us):Vals xs.dropLast us.dropLast:=by
 induction h with
 | nil=>exact .nil
 | cons r t ih=>
  cases t with
  | nil=>exact .nil
  | cons q t'=>exact .cons r ih
theorem Vals.eraseIdx:∀ {xs:List V} {us:List Value} (i:Nat),Vals xs us→Vals (xs.eraseIdx i) (us.eraseIdx i)
 | _,_,_,.nil=>.nil
 | _,_,0,.cons _ t=>t
 | _,_,i+1,.cons r t=>.cons r (Vals.eraseIdx i t)
theorem Vals.rep {xs:List V} {us:List Value} (h:Vals xs us):∀ k:Nat,Vals (List.replicate k xs).flatten (List.replicate k us).flatten
 | 0=>.nil
 | k+1=>by
  rw [List.replicate_succ,List.replicate_succ,List.flatten_cons,List.flatten_cons]
  exact Vals.append h (Vals.rep h k)
theorem erase_last {α:Type} (l:List α):l.eraseIdx (l.length-1)=l.dropLast:=by
 induction l with
 | nil=>rfl
 | cons a r ih=>
  cases r with
  | nil=>rfl
  | cons b r=>
   have e:(a :: b :: r).length-1=((b :: r).length-1)+1:=by
    have h1:(a :: b :: r).length=r.length+2:=rfl
    have h2:(b :: r).length=r.length+1:=rfl
    omega
   rw [e,List.eraseIdx_cons_succ,ih]
   all_goals rfl
theorem len_erase {α:Type}:∀ (l:List α) (i:Nat),(l.eraseIdx i).length≤l.length
 | [],_=>Nat.le_refl _
 | _ :: _,0=>Nat.le_succ _
 | _ :: r,i+1=>Nat.succ_le_succ (len_erase r i)
theorem foldl_rep (its:List Value):∀ (k:Nat) (acc:List Value),
  List.foldl (fun x1 x2=>x1++x2) acc.toArray (List.replicate k its.toArray)=(acc++(List.replicate k its).flatten).toArray
 | 0,acc=>by simp
 | k+1,acc=>by
  have e:acc.toArray++its.toArray=(acc++its).toArray:=by simp
  have e2:(acc++its)++(List.replicate k its).flatten=acc++(List.replicate (k+1) its).flatten:=by
   rw [List.replicate_succ,List.flatten_cons,List.append_assoc]
  rw [← e2,← foldl_rep its k (acc++its),← e,List.replicate_succ,List.foldl_cons]
section
variable {X:Cx} {pins:List (Addr×Obj)} {σ:St} {H:Hp} {s:Shared} {l b:Addr} {xs ys zs:List V}
theorem Inv.lset {its its':List Value} {n:Nat} {f:Array Value→Array Value} {t':Nat} (I:Inv X pins σ H s) (hH:H l=some (.lst xs))
  (e:s.heap.get? l=some { cls:=.type "list",data:=.seq its.toArray n }) (hf:f its.toArray=its'.toArray) (hv:Vals ys its') (hz:ys.length≤sizeLine) :
  Inv X pins σ (upd H l (.lst ys)) { s with heap:=s.heap.update l (Obj.mapSeq f),toks:=t' }:=by
 have q:=PySem.IsL.update e f
 rw [hf] at q
 refine I.write (x:=l) (e:=l) (by rw [hH]; exact trivial) (.inl rfl) (fun b' u hb hu=>(Heap.get?_update_other s.heap (Obj.mapSeq f) (Ne.symm hb)).trans hu) ⟨_,q⟩ ?_
 exact ⟨hz,its',_,hv,q⟩
theorem Inv.lnew {its:List Value} {t':Nat} (I:Inv X pins σ H s) (hv:Vals ys its) (hz:ys.length≤sizeLine) :
  Inv X pins σ (upd H s.heap.objs.size (.lst ys)) { s with heap:=s.heap.push { cls:=.type "list",data:=.seq its.toArray },toks:=t' }:=
 I.laid (fun _ _ q=>Heap.get?_push_of_some _ q) (Nat.le_refl _) ⟨hz,its,0,hv,Heap.get?_push_size _ rfl⟩
theorem Inv.fresh (I:Inv X pins σ H s):H s.heap.objs.size=none:=I.hok.fresh (Nat.le_refl _)
theorem Inv.lstM (I:Inv X pins σ H s) (hH:H l=some (.lst xs)):xs.length≤sizeLine∧∃ (its:List Value) (n:Nat),Vals xs its∧xs.length=its.length∧s.heap.get? l=some { cls:=.type "list",data:=.seq its.toArray n }:=by
 obtain ⟨z,its,n,r,e⟩:=I.hok l _ hH
 exact ⟨z,its,n,r,r.length,e⟩
theorem notLongL {n:Nat} (h:n≤sizeLine):Builtin.List.listTooLong n=false:=by
 unfold Builtin.List.listTooLong
 exact decide_eq_false (by omega)
end
section
variable {X:Cx}
def rAppend:V→List V→Hp→VK→Prop:=fun x vs H Q=>∃ l xs y,x=.ref l∧vs=[y]∧H l=some (.lst xs)∧xs.length < sizeLine∧Q .non (upd H l (.lst (xs++[y])))
theorem mt_append:MtM X "list.append" rAppend:=by
 intro pins s σ H x vs v us Q I rx rv h
 obtain ⟨l,xs,y,rfl,rfl,hH,hz,q⟩:=h
 cases rx
 obtain ⟨u,rfl,ru⟩:=rv.one
 obtain ⟨z,its,n,r,hl,e⟩:=I.lstM hH
 refine call_meets F.slot_list_append ⟨_,e,rfl⟩ F.entry_list_append (F.args_list_append_2 _ _) (PySem.list_append l its.toArray n u (by rw [List.size_toArray]; omega)) ⟨e,?_⟩
 refine ⟨.non,_,I.lset (its':=its++[u]) hH e (by simp) (r.append (.cons ru .nil)) ?_,rfl,q⟩
 rw [List.length_append,List.length_singleton]
 omega
def rPop:V→List V→Hp→VK→Prop:=fun x vs H Q=>∃ l xs y,x=.ref l∧vs=[]∧H l=some (.lst xs)∧xs[xs.length-1]? = some y∧Q y (upd H l (.lst xs.dropLast))
theorem mt_pop:MtM X "list.pop" rPop:=by
 intro pins s σ H x vs v us Q I rx rv h
 obtain ⟨l,xs,y,rfl,rfl,hH,hy,q⟩:=h
 cases rx
 have hus:=rv.zero
 subst hus
 obtain ⟨z,its,n,r,hl,e⟩:=I.lstM hH
 obtain ⟨u,hu,ru⟩:=r.get hy
 have hy':its.toArray[its.toArray.size-1]? = some u:=by
  show its.toArray[its.length-1]? = some u
  rw [← Array.getElem?_toList,← hl]
  exact hu
 refine call_meets F.slot_list_pop ⟨_,e,rfl⟩ F.entry_list_pop (F.args_list_pop_1 _) (MeetsSeq.list_pop_last l its.toArray n u hy' (by rw [List.size_toArray]; omega)) ⟨e,?_⟩
 refine ⟨y,_,I.lset (its':=its.dropLast) hH e ?_ r.dropLast ?_,ru,q⟩
 ·show its.toArray.eraseIdxIfInBounds (its.toArray.size-1)=its.dropLast.toArray
  rw [List.size_toArray,List.eraseIdxIfInBounds_toArray,erase_last]
 ·rw [List.length_dropLast]
  omega
def rPopAt:V→List V→Hp→VK→Prop:=fun x vs H Q=>∃ l xs i k y,x=.ref l∧vs=[.int i]∧H l=some (.lst xs)∧-(2 ^ 63)≤i∧i < 2 ^ 63∧seqIndex? i xs.length=some k∧xs[k]? = some y∧Q y (upd H l (.lst (xs.eraseIdx k)))
theorem mt_popAt:MtM X "list.pop" rPopAt:=by
 intro pins s σ H x vs v us Q I rx rv h
 obtain ⟨l,xs,i,k,y,rfl,rfl,hH,h1,h2,hk,hy,q⟩:=h
 cases rx
 obtain ⟨u,rfl,ru⟩:=rv.one
 obtain ⟨t,rfl⟩:=ru
 obtain ⟨z,its,n,r,hl,e⟩:=I.lstM hH
 obtain ⟨w,hw,rw'⟩:=r.get hy
 refine call_meets F.slot_list_pop ⟨_,e,rfl⟩ F.entry_list_pop (F.args_list_pop_2 _ _)
  (MeetsSeq.list_pop_at l its.toArray n i t k w (fitsIndex_both h1 h2) (by rw [List.size_toArray,← hl]; exact hk) (by rw [← Array.getElem?_toList]; exact hw) (by rw [List.size_toArray]; omega)) ⟨e,?_⟩
 refine ⟨y,_,I.lset (its':=its.eraseIdx k) hH e ?_ (r.eraseIdx k) ?_,rw',q⟩
 ·show its.toArray.eraseIdxIfInBounds k=(its.eraseIdx k).toArray
  rw [List.eraseIdxIfInBounds_toArray]
 ·have:=len_erase xs k
  omega
def rCat:R2:=fun x y H Q=>∃ l b xs zs,x=.ref l∧y=.ref b∧H l=some (.lst xs)∧H b=some (.lst zs)∧xs.length+zs.length≤sizeLine∧∀ p,H p=none→Q (.ref p) (upd H p (.lst (xs++zs)))
theorem op_cat:OpR X (binaryOp .Add) rCat:=by
 intro pins s σ H x y v u Q I rx ry h
 obtain ⟨l,b,xs,zs,rfl,rfl,hH,hB,hz,q⟩:=h
 cases rx
 cases ry
 obtain ⟨z,its,n,r,hl,e⟩:=I.lstM hH
 obtain ⟨z2,its2,n2,r2,hl2,e2⟩:=I.lstM hB
 refine PySem.P.add_list e e2 ?_ (by rw [List.size_toArray,List.size_toArray]; omega)
 have ea:its.toArray++its2.toArray=(its++its2).toArray:=by simp
 rw [ea]
 exact ⟨.ref _,_,I.lnew (t':=s.toks) (r.append r2) (by rw [List.length_append]; omega),rfl,q _ I.fresh⟩
def rRep:R2:=fun x y H Q=>∃ l k xs,x=.ref l∧y=.int k∧H l=some (.lst xs)∧-(2 ^ 63)≤k∧k < 2 ^ 63∧xs.length*k.toNat≤sizeLine∧
 ∀ p,H p=none→Q (.ref p) (upd H p (.lst (List.replicate k.toNat xs).flatten))
theorem len_rep {α:Type} (xs:List α) (k:Nat):(List.replicate k xs).flatten.length=k*xs.length:=by
 induction k with
 | zero=>simp
 | succ k ih=>rw [List.replicate_succ,List.flatten_cons,List.length_append,ih,Nat.succ_mul,Nat.add_comm]
theorem op_rep : OpR X (binaryOp .Mult) rRep := by
  intro pins s σ H x y v u Q I rx ry h
  obtain ⟨l, k, xs, rfl, rfl, hH, h1, h2, hz, q⟩ := h
  cases rx
  obtain ⟨t, rfl⟩ := ry
  obtain ⟨z, its, n, r, hl, e⟩ := I.lstM hH
  have hlen : its.toArray.size * k.toNat ≤ sizeLine := by rw [List.size_toArray, ← hl]; exact hz
  have hcap : ¬ its.toArray.size * k.toNat > (2 ^ 63 - 1) / 8 := by
    have : (sizeLine : Nat) ≤ (2 ^ 63 - 1) / 8 := by decide
    omega
  have hfit : ¬ (!Builtin.List.listFitsIndex k) = true := by
    rw [fitsIndex_both h1 h2]
    exact Bool.false_ne_true
  have hlong : ¬ Builtin.List.listTooLong (its.toArray.size * k.toNat) = true := by
    rw [notLongL hlen]
    exact Bool.false_ne_true
  have hnew : List.foldl (fun x1 x2 => x1 ++ x2) #[] (List.replicate (if its.toArray.isEmpty = true then 0 else k.toNat) its.toArray) = (List.replicate k.toNat its).flatten.toArray := by
    have f0 : ∀ m : Nat, List.foldl (fun x1 x2 => x1 ++ x2) #[] (List.replicate m its.toArray) = (List.replicate m its).flatten.toArray := fun m => by
      have := foldl_rep its m []
      rw [List.nil_append] at this
      exact this
    rw [f0]
    cases its with
    | nil => simp
    | cons a r' => rw [if_neg (by simp)]
  refine wpAny_binaryOp_repeat_ref (T := "list") (U := "int") (by decide) ⟨_, e, rfl⟩ (fun s' => typeIs_int s' k t) noFill_list_mul F.fills_int_mul F.slot_int_rmul repeat_list F.slot_int_index.lookup
    (call_meets F.slot_int_rmul (typeIs_int s k t) F.entry_int_rmul (F.args_int_rmul_2 _ _) (int___rmul___int_list k t l its.toArray n)
      ⟨e, rfl, ⟨_, e, rfl⟩, call_meets F.slot_list_mul ⟨_, e, rfl⟩ F.entry_list_mul (F.args_list_mul_2 _ _) (AutoListH.list___mul___list_int_3 l its.toArray n k t hfit hcap hlong) ⟨e, ?_⟩⟩)
  rw [hnew]
  exact ⟨.ref _, _, I.lnew (t' := s.toks) (r.rep k.toNat) (by rw [len_rep, Nat.mul_comm]; exact hz), rfl, q _ I.fresh⟩
end
section
variable {prog:Program} {w:World} {A:Around} {E:Value→Shared→Prop} {s:Shared}
end
section
variable {X:Cx}
end
end L2
namespace Att
open PySem PySem.W PySem.Calls PyProof.Rows
theorem ints_of_wellAll {P:Params} {h:Heap}:∀ (ns:List Int) (vs:List Value),WellAll P h vs (ns.map WData.int)→IntsAre vs ns:=by
 intro ns
 induction ns with
 | nil=>
  intro vs w
  rw [List.map_nil] at w
  cases w
  exact .nil
 | cons n ns ih=>
  intro vs w
  rw [List.map_cons] at w
  cases w with
  | cons a b=>
   cases a
   exact .cons _ _ (ih _ b)
theorem script_of {l:OpenLaw} {n:Nat} (hn:l.most=some n) {P:Params} {h:Heap} {args:List WData} {vals:List Value}
  (hpre:l.row.toRowW.claim.pre args=true) (hwl:WellAll P h vals args) :
  ∃ a vs ns,vals=[Value.ref a]∧args=[WData.list (ns.map WData.int)]∧h.get? a=some { cls:=.type "list",data:=.seq vs.toArray }∧IntsAre vs ns∧ns.length≤n:=by
 have hsh:WShape.hasAll [] args [.list .int]=true:=(pre_splitW hpre).1
 have hc:l.pre.holds [] { args:=args }=true:=(pre_splitW hpre).2
 obtain ⟨d,r,rfl,h1,h2⟩:=hasAllW_cons hsh
 obtain rfl:=hasAllW_nil h2
 obtain ⟨xs,rfl,h3⟩:=hasW_list h1
 obtain ⟨ns,rfl⟩:=items_int h3
 have hlen:ns.length≤n:=by
  unfold OpenLaw.pre at hc
  have h4:(WTm.not (.lt (.lit (.int (n:Int))) (.len (.arg 0)))).holds [] { args:=[.list (ns.map .int)] }=true:=by
   have h4:=(holds_andW hc).1
   rw [hn] at h4
   exact h4
  have h5:=condW_of h4 (w_not (w_lt w_lit (w_len_list (w_arg rfl))))
  rw [List.length_map] at h5
  refine Nat.le_of_not_lt fun q=>?_
  have q':(n:Int) < ((ns.length:Nat):Int):=by omega
  first
   | (rw [decide_eq_true q'] at h5; exact absurd h5 (by decide))
   | (simp at h5; omega)
 cases hwl with
 | cons w1 w2=>
  cases w2
  cases w1 with
  | list ho hall=>exact ⟨_,_,ns,rfl,rfl,ho,ints_of_wellAll ns _ hall,hlen⟩
theorem post_true (l:OpenLaw) (args:List WData):l.row.toRowW.claim.post args (.bool true) args=true:=
 postW_of (r:=l.row.toRowW) (X:=(true==true))
  (show WShape.has [] (.bool true) .bool=true by first | rfl | decide | simp [WShape.has,WShape.arms,WShape.armsAll])
  (show (WTm.eq .res (.lit (.bool true))).value [] { args:=args,res:=some (.bool true),after:=args }=some (.bool (true==true)) from w_eq_bool (w_res rfl) w_lit) rfl
theorem attach_call {l : OpenLaw} {n : Nat} {q : Program} {loose : List Str} {XP : (Str → Option Value) → Heap → Prop} {YP : World → Heap → Prop} {d : DefRec}
    (hn : l.most = some n) (hdf : d.params.defaults = [])
    (call : ∀ (w : World) (s₀ s₁ : Shared) (mg mb : Str → Option Value) (fa : Addr) (o : Obj) (pm cd doc : Value) (a : Addr) (vs : List Value) (ns : List Int),
      Ground q loose [] XP w s₀ mg mb s₁.heap → YP w s₁.heap →
      s₁.heap.get? fa = some o → o.data = .func (docDef d.name d.params d.body d.scope pm cd doc) → s₁.heap.CodeRec cd d.name → mg d.name = some (.ref fa) →
      s₁.heap.get? a = some { cls := .type "list", data := .seq vs.toArray } → IntsAre vs ns → ns.length ≤ n → s₁.gens = #[] →
      codeAny (model l.prog w) callerA (.call (.ref fa) ⟨[.ref a], []⟩) (fun r s' => r = .ok (.ret (.bool true)) ∧ OldK s₁.heap s'.heap ∧ s'.os = s₁.os ∧ AllBare s'.gens) s₁) :
    WalkO q loose XP YP l.row.toRowW d [] (fun f vs => PySem.call f vs) := by
  intro w s₀ s₁ mg mb G Y fa o pm cd doc dV kV ho hd hcd hD hmg hg args vals as hpre hlay hrd hwl hlo
  obtain rfl : dV = .none := Dflts.none hD hdf
  obtain rfl : kV = .none := Dflts.noKw hD
  obtain ⟨a, vs, ns, rfl, rfl, hobj, hints, hlen⟩ := script_of hn hpre hwl
  refine enter_call (codeAny_mono (call w s₀ s₁ mg mb fa o pm cd doc a vs ns G Y ho (fd_plain hd) hcd hmg hobj hints hlen hg) fun r s' hq => ?_)
  obtain ⟨rfl, h2, h3, h4⟩ := hq
  exact ⟨.inl ⟨.bool true, .bool true, [], rfl, fun _ => rfl, .bool true, post_true l _, fun _ => ⟨List.Pairwise.nil, fun _ hm => (nomatch hm)⟩⟩, h2, h3, h4⟩
section
variable {prog:Program} {w:World} {A:Around} {E:Value→Shared→Prop} {s:Shared} {K:Frag}
end
end Att
namespace L2
open PySem PySem.Spec PyProof.Rows
theorem vals_ints:∀ {vs:List Value} {ns:List Int},IntsAre vs ns→Vals (ns.map V.int) vs
 | _,_,.nil=>.nil
 | _,_,.cons n t h=>.cons ⟨t,rfl⟩ (vals_ints h)
def Only (H:Hp):Prop:=∀ b,H b=none∨∃ o xs,H b=some (.frz o (.lst xs))
theorem law_call {P:Program} {w:World} {K:W.Frag} {mg mb:Str→Option Value} {CX:CXT} {k:Nat} {fa a:Addr} {fd:FuncData} {x:Str} {sp:Sp} {s₁:Shared} {vs:List Value} {ns:List Int}
  (KX:K.In s₁.heap) (hns:s₁.heap.Ns mainGlobals mg) (hb:s₁.heap.Ns builtinsNs mb) (hbb:∀ x:Str,x≠"__name__"→mb x=bootBuiltins x) (hlim:s₁.heap.NoLimit) (hg:s₁.gens=#[])
  (ha:s₁.heap.get? a=some { cls:=.type "list",data:=.seq vs.toArray }) (hi:IntsAre vs ns) (hl:ns.length≤sizeLine) (hr:Room k callerA)
  (F:∀ base:Heap,K.In base→base.Ns mainGlobals mg→FnOk P w K mg base CX k fa fd [x] sp) (hbind:∀ (s:Shared) (u:Value),BindsTo s fd ⟨[u],[]⟩ [(x,u)])
  (hsp:∀ H:Hp,Only H→SqL K H a (ns.map V.int)→sp [.ref a] H (fun v _=>v=.bl true) fun _ _ _=>False)
  (hCX:∀ H e s',CX [] H s₁ (fun _ _ _=>False) e s'→False) :
  codeAny (model P w) callerA (.call (.ref fa) ⟨[.ref a],[]⟩) (fun r s'=>r=.ok (.ret (.bool true))∧OldK s₁.heap s'.heap∧s'.os=s₁.os∧AllBare s'.gens) s₁:=by
 have rv:=vals_ints hi
 have lenV:=hi.length
 -- from an abstract heap in which nothing but the script may be tracked
 have core:∀ H:Hp,Only H→SqL K H a (ns.map V.int)→HOk P w H s₁.heap→(∀ b,H b≠none→b=a)→(H a≠none→K.lookup a=none)→
   codeAny (model P w) callerA (.call (.ref fa) ⟨[.ref a],[]⟩) (fun r s'=>r=.ok (.ret (.bool true))∧OldK s₁.heap s'.heap∧s'.os=s₁.os∧AllBare s'.gens) s₁:=by
  intro H hO hS hok hA hK
  have base_of:∀ {b:Addr} {o:Obj},s₁.heap.get? b=some o→H b=none→(hidT s₁.heap H).get? b=some o:=fun e n=>hidT_get e n
  have noA:∀ {b:Addr} {o:Obj} {es:Array DictEntry} {ep:Nat},s₁.heap.get? b=some o→o.data=.dict es ep→H b=none:=fun {b o es ep} e d=>by
   cases q:H b with
   | none=>rfl
   | some u=>
    have e':b=a:=hA b (by rw [q]; simp)
    subst e'
    rw [ha] at e; cases e
    have d':Data.seq vs.toArray _=Data.dict es ep:=d
    cases d'
  have nsK:∀ {b:Addr} {m:Str→Option Value},s₁.heap.Ns b m→(hidT s₁.heap H).Ns b m:=fun {b m} ⟨o,es,ep,e,d,r⟩=>⟨o,es,ep,base_of e (noA e d),d,r⟩
  have hKb:K.In (hidT s₁.heap H):=fun b o e=>base_of (KX b o e) (by
   cases q:H b with
   | none=>rfl
   | some u=>
    have e':b=a:=hA b (by rw [q]; simp)
    subst e'
    rw [hK (by rw [q]; simp)] at e; cases e)
  have hM:Mod K mg (hidT s₁.heap H):=⟨hKb,nsK hns,⟨mb,nsK hb,hbb⟩,let ⟨mc,h1,h2⟩:=hlim; ⟨mc,nsK h1,h2⟩⟩
  have e0:Env0 P w K mg (hidT s₁.heap H) callerA [] s₁ H:=⟨rfl,hM,fun b o e=>of_hidT e,Nat.le_of_eq (hidT_size _ _),trivial,fun b hb=>absurd (show b∈([]:List Addr) from hb) (by simp),hok,.of_eq hg⟩
  refine codeAny_mono ((F _ hKb (nsK hns)).run callerA [] s₁ H ⟨[.ref a],[]⟩ [.ref a] [.ref a] _ _ hr e0 (hbind s₁ (.ref a)) (.cons rfl .nil) (hsp H hO hS)) fun r s' h=>?_
  cases r with
  | error e=>exact (hCX H e s' h).elim
  | ok fl=>
   cases fl with
   | next=>exact False.elim h
   | brk=>exact False.elim h
   | cont=>exact False.elim h
   | ret u=>
    obtain ⟨v,H',os,bare,un,hok',r',q⟩:=h
    have q':v=.bl true:=q
    subst q'
    obtain rfl:u=Value.bool true:=r'
    refine ⟨rfl,OldK.of_keep fun b o e=>?_,os,bare⟩
    cases q:H b with
    | none=>exact un.keep b o e q (by intro z; exact absurd (show b∈([]:List Addr) from z) (by simp)) (by simp)
    | some u=>
     rcases hO b with z | ⟨ob,xs,z⟩
     ·rw [q] at z; cases z
     ·have z2:=un.frzs b ob _ z
      obtain ⟨e1,_⟩:=hok b _ z
      obtain ⟨e2,_⟩:=hok' b _ z2
      rw [e] at e1; cases e1
      exact e2
 cases hk:K.lookup a with
 | some o=>
  -- the script is one of the module's own objects
  have e:=KX a o hk
  rw [ha] at e
  cases e
  refine core (fun _=>none) (fun _=>.inl rfl) (.inr ⟨_,vs.toArray,_,hk,rfl,rfl,rfl,by rw [List.size_toArray,lenV]; exact hl,by simpa using rv⟩) (fun b u z=>by have z':(none:Option HO)=some u:=z; cases z') (fun b z=>absurd rfl z) fun z=>absurd rfl z
 | none=>
  refine core (fun b=>if b=a then some (.frz { cls:=.type "list",data:=.seq vs.toArray } (.lst (ns.map V.int))) else none) (fun b=>?_) (.inl (.inr ⟨{ cls:=.type "list",data:=.seq vs.toArray },if_pos rfl⟩)) (fun b u z=>?_) (fun b z=>?_) fun _=>hk
  ·by_cases hb:b=a
   ·exact .inr ⟨_,_,if_pos hb⟩
   ·exact .inl (if_neg hb)
  ·by_cases hb:b=a
   ·have z':=(if_pos hb).symm.trans z
    cases z'
    subst hb
    exact ⟨ha,by rw [List.length_map]; exact hl,vs,_,rv,ha⟩
   ·have z':=(if_neg hb).symm.trans z
    cases z'
  ·by_cases hb:b=a
   ·exact hb
   ·exact absurd (if_neg hb) z
end L2
namespace L2
open PySem PySem.Spec PyProof.Rows
theorem walk_of {l : W.OpenLaw} {n k : Nat} {q : Program} {loose : List Str} {XP : (Str → Option Value) → Heap → Prop} {YP : World → Heap → Prop} {d : DefRec} {K : Params → W.Frag} {CX : World → CXT} {sp : World → Sp} {x : Str}
    (hn : l.most = some n) (hn2 : n ≤ sizeLine) (hdf : d.params.defaults = []) (hr : Room k callerA)
    (hY : ∀ (w : World) (h : Heap), YP w h → (K w.params).In h)
    (F : ∀ (w : World) (mg : Str → Option Value) (fa : Addr) (h : Heap), (K w.params).In h → h.Ns mainGlobals mg → mg d.name = some (.ref fa) →
      ∃ fd : FuncData, (∀ (s : Shared) (u : Value), BindsTo s fd ⟨[u], []⟩ [(x, u)]) ∧
        ∀ base : Heap, (K w.params).In base → base.Ns mainGlobals mg → FnOk l.prog w (K w.params) mg base (CX w) k fa fd [x] (sp w))
    (hsp : ∀ (w : World) (H : Hp) (a : Addr) (ns : List Int), ns.length ≤ n → Only H → SqL (K w.params) H a (ns.map V.int) → sp w [.ref a] H (fun v _ => v = .bl true) fun _ _ _ => False)
    (hCX : ∀ (w : World) (H : Hp) (s : Shared) (e : Value) (s' : Shared), CX w [] H s (fun _ _ _ => False) e s' → False) :
    W.WalkO q loose XP YP l.row.toRowW d [] (fun f vs => PySem.call f vs) := by
  refine Att.attach_call hn hdf fun w s₀ s₁ mg mb fa o pm cd doc a vs ns G Y ho hd hcd hmg hobj hints hlen hg => ?_
  have KX := hY w _ Y
  obtain ⟨fd, hb, hF⟩ := F w mg fa _ KX G.T.g hmg
  exact law_call KX G.T.g G.T.b G.T.builtins G.T.nolimit hg hobj hints (Nat.le_trans hlen hn2) hr hF hb (fun H hO hS => hsp w H a ns hlen hO hS) fun H e s' => hCX w H s₁ e s'
end L2
namespace L2
open PySem PySem.Spec PyProof.Rows
def inClass (s:Stmt) (j:Nat):Stmt:=match s with
 | .ClassDef _ _ _ body _ _ _ _ _ _ _=>body.getD j (.Pass ⟨0,0,0,0⟩)
 | _=>.Pass ⟨0,0,0,0⟩
def defArgs (s:Stmt):Arguments:=match s with
 | .FunctionDef _ a _ _ _ _ _ _ _ _=>a
 | _=>{ posonlyargs:=[],args:=[],vararg:=none,kwonlyargs:=[],kw_defaults:=[],kwarg:=none,defaults:=[] }
def defBody (s:Stmt):List Stmt:=match s with
 | .FunctionDef _ _ b _ _ _ _ _ _ _=>b
 | _=>[]
def defScope (s:Stmt):Scope:=match s with
 | .FunctionDef _ _ _ _ _ _ sc _ _ _=>sc
 | _=>{ kind:=.function,names:=[],isGenerator:=false,isCoroutine:=false }
abbrev CX0:CXT:=fun _ _ _ _ _ _=>False
abbrev E0:XK:=fun _ _ _=>False
theorem pass0 {X:Cx}:Passes CX0 X E0:=fun _ _ _ _ _ _ _ h=>h.elim
structure Fun (K:W.Frag) (x qual:Str) (st:Stmt) (f:Addr) (fd:FuncData):Prop where
 ex:∃ (oc:Value) (od:Option Addr) (kV doc pm:Value) (an:Option Addr) (cdv ct:Value) (osl:Array (Option Value)),
  fd=W.fnOf x qual (defArgs st) (defBody st) (defScope st) .none kV doc pm an cdv ct∧K.lookup f=some ⟨oc,od,.func fd,osl⟩∧W.codeIn K cdv qual=true
 kp:W.keepIn K (.ref f)=true
section
variable {P:Program} {w:World} {K:W.Frag} {mg:Str→Option Value} {base:Heap}
theorem Fun.binds {x qual:Str} {st:Stmt} {f:Addr} {fd:FuncData} {ps:List Str} (F:Fun K x qual st f fd)
  (h:∀ (kV doc pm:Value) (an:Option Addr) (cdv ct:Value) (us:List Value),us.length=ps.length→bindArgs (W.fnOf x qual (defArgs st) (defBody st) (defScope st) .none kV doc pm an cdv ct) ⟨us,[]⟩=pure (ps.zip us)):Binds K fd ps []:=by
 obtain ⟨oc,od,kV,doc,pm,an,cdv,ct,osl,rfl,lk,hcd⟩:=F.ex
 exact .all (h kV doc pm an cdv ct)
theorem fun_mk {x qual:Str} {st:Stmt} {f:Addr} {oc:Value} {od an:Option Addr} {osl:Array (Option Value)} {kV doc pm cdv ct:Value} (l:K.lookup f=some ⟨oc,od,.func (W.fnOf x qual (defArgs st) (defBody st) (defScope st) .none kV doc pm an cdv ct),osl⟩)
  (c:W.codeIn K cdv qual=true) (k:W.keepIn K (.ref f)=true):Fun K x qual st f (W.fnOf x qual (defArgs st) (defBody st) (defScope st) .none kV doc pm an cdv ct):=⟨⟨oc,od,kV,doc,pm,an,cdv,ct,osl,rfl,l,c⟩,k⟩
end
theorem hu_of {A:Around} {k:Nat} (hr:Room k A):A.units+1 < cLine:=Nat.lt_of_le_of_lt (Nat.add_le_add_left (by decide:1≤64) _) hr.units
section
variable {X:Cx}
end
def Same (H H':Hp):Prop:=∀ b o,H b=some o→H' b=some o
end L2
namespace L2
open PySem PySem.Spec PyProof.Rows
section
variable {κ:Type} [DecidableEq κ]
def valV (kvs:List (κ×V)) (k:κ):Option V:=(kvs.find? fun kv=>decide (kv.1=k)).map (·.2)
def putK (kvs:List (κ×V)) (k:κ) (v:V):List (κ×V):=
 if (kvs.any fun kv=>decide (kv.1=k))=true then kvs.map (fun kv=>if kv.1=k then (kv.1,v) else kv) else kvs++[(k,v)]
theorem valV_pos {p:κ×V} {r:List (κ×V)} {k:κ} (e:p.1=k):valV (p :: r) k=some p.2:=by simp [valV,List.find?_cons,e]
theorem valV_neg {p:κ×V} {r:List (κ×V)} {k:κ} (e:¬ p.1=k):valV (p :: r) k=valV r k:=by simp [valV,List.find?_cons,e]
theorem valV_any (k:κ):∀ kvs:List (κ×V),(kvs.any fun kv=>decide (kv.1=k))=(valV kvs k).isSome
 | []=>rfl
 | p :: r=>by
  rw [List.any_cons]
  by_cases e:p.1=k
  ·simp only [valV_pos e,decide_eq_true e,Bool.true_or,Option.isSome_some]
  ·rw [valV_neg e,decide_eq_false e,Bool.false_or]; exact valV_any k r
theorem length_putK (kvs:List (κ×V)) (k:κ) (v:V):(putK kvs k v).length≤kvs.length+1:=by
 unfold putK
 split
 ·rw [List.length_map]; omega
 ·rw [List.length_append,List.length_cons,List.length_nil]; omega
theorem RelO.isSome_eq {o:Option V} {u:Option Value} (r:RelO o u):o.isSome=u.isSome:=by
 cases o with
 | none=>cases u with
  | none=>rfl
  | some _=>exact (show False from r).elim
 | some _=>cases u with
  | none=>exact (show False from r).elim
  | some _=>rfl
theorem KV.val {kvs:List (κ×V)} {vs:List (κ×Value)} (r:KV kvs vs) (k:κ):RelO (valV kvs k) (valueAt vs k):=by
 unfold KV at r
 induction r with
 | nil=>exact True.intro
 | @cons p q ps qs h t ih=>
  obtain ⟨h1,h2⟩:=h
  by_cases e:p.1=k
  ·have e':q.1=k:=h1.symm.trans e
   have b:valueAt (q :: qs) k=some q.2:=by simp [valueAt,List.find?_cons,e']
   rw [valV_pos e,b]; exact h2
  ·have e':¬ q.1=k:=fun z=>e (h1.trans z)
   have b:valueAt (q :: qs) k=valueAt qs k:=by simp [valueAt,List.find?_cons,e']
   rw [valV_neg e,b]; exact ih
theorem KV.any {kvs:List (κ×V)} {vs:List (κ×Value)} (r:KV kvs vs) (k:κ):(kvs.any fun kv=>decide (kv.1=k))=vs.any fun kv=>decide (kv.1=k):=by
 unfold KV at r
 induction r with
 | nil=>rfl
 | cons h t ih=>rw [List.any_cons,List.any_cons,ih,h.1]
theorem KV.repl {kvs:List (κ×V)} {vs:List (κ×Value)} (r:KV kvs vs) (k:κ) {y:V} {u:Value} (ry:RelV y u) :
  KV (kvs.map fun kv=>if kv.1=k then (kv.1,y) else kv) (vs.map fun kv=>if kv.1=k then (kv.1,u) else kv):=by
 unfold KV at r ⊢
 induction r with
 | nil=>exact .nil
 | @cons p q ps qs h t ih=>
  rw [List.map_cons,List.map_cons]
  refine .cons ?_ ih
  obtain ⟨h1,h2⟩:=h
  by_cases e:p.1=k
  ·rw [if_pos e,if_pos (h1.symm.trans e)]; exact ⟨h1,ry⟩
  ·rw [if_neg e,if_neg (fun z=>e (h1.trans z))]; exact ⟨h1,h2⟩
theorem KV.put {kvs:List (κ×V)} {vs:List (κ×Value)} (r:KV kvs vs) (k:κ) {y:V} {u:Value} (ry:RelV y u):KV (putK kvs k y) (stored vs k u):=by
 unfold putK stored
 rw [r.any k]
 by_cases e:(vs.any fun kv=>decide (kv.1=k))=true
 ·rw [if_pos e,if_pos e]; exact r.repl k ry
 ·rw [if_neg e,if_neg e]; exact Paired.snoc r ⟨rfl,ry⟩
theorem KV.length {kvs:List (κ×V)} {vs:List (κ×Value)} (r:KV kvs vs):kvs.length=vs.length:=Paired.length r
end
theorem kV_is {P:Program} {w:World} {k:Key} {u:Value} (r:RelV (kV k) u):(mixKind P w).is k u=true:=by
 cases k with
 | inl i=>obtain ⟨t,e⟩:=(show ∃ t,u=Value.int i t from r); subst e; exact mixKind_int P w i t
 | inr x=>obtain ⟨t,e⟩:=(show ∃ t,u=Value.str x t from r); subst e; exact mixKind_str P w x t
theorem items_are {P:Program} {w:World}:∀ {ks:List Key} {us:List Value},Vals (ks.map kV) us→ItemsAre (mixKind P w) ks us
 | [],_,r=>by rw [List.map_nil] at r; cases r; exact .nil
 | k :: ks,_,r=>by
  rw [List.map_cons] at r
  cases r with
  | cons h t=>exact .cons (kV_is h) (items_are t)
abbrev KT (H:Hp):List (List Key×V)→List (List Key×Addr×Value)→Prop:=Paired fun p q=>p.1=q.1∧H q.2.1=some (.tup (p.1.map kV))∧RelV p.2 q.2.2
theorem KT.val {H:Hp} {kvs:List (List Key×V)} {xs:List (List Key×Addr×Value)} (r:KT H kvs xs) (k:List Key):RelO (valV kvs k) ((atKey xs k).map (·.2)):=by
 induction r with
 | nil=>exact True.intro
 | @cons p q ps qs h t ih=>
  obtain ⟨h1,_,h2⟩:=h
  by_cases e:p.1=k
  ·have e':q.1=k:=h1.symm.trans e
   have b:atKey (q :: qs) k=some q.2:=by simp [atKey,List.find?_cons,e']
   rw [valV_pos e,b]; exact h2
  ·have e':¬ q.1=k:=fun z=>e (h1.trans z)
   have b:atKey (q :: qs) k=atKey qs k:=by simp [atKey,List.find?_cons,e']
   rw [valV_neg e,b]; exact ih
theorem KT.repl {H:Hp} {kvs:List (List Key×V)} {xs:List (List Key×Addr×Value)} (r:KT H kvs xs) (k:List Key) {y:V} {u:Value} (ry:RelV y u) :
  KT H (kvs.map fun kv=>if kv.1=k then (kv.1,y) else kv) (xs.map (putAt k u)):=by
 induction r with
 | nil=>exact .nil
 | @cons p q ps qs h t ih=>
  rw [List.map_cons,List.map_cons]
  refine .cons ?_ ih
  obtain ⟨h1,h2,h3⟩:=h
  unfold putAt
  by_cases e:p.1=k
  ·rw [if_pos e,if_pos (h1.symm.trans e)]; exact ⟨h1,h2,ry⟩
  ·rw [if_neg e,if_neg (fun z=>e (h1.trans z))]; exact ⟨h1,h2,h3⟩
theorem KT.put {H:Hp} {kvs:List (List Key×V)} {xs:List (List Key×Addr×Value)} (r:KT H kvs xs) (k:List Key) {b:Addr} {y:V} {u:Value} (hb:H b=some (.tup (k.map kV))) (ry:RelV y u) :
  KT H (putK kvs k y) (storedH xs k b u):=by
 have e:(kvs.any fun kv=>decide (kv.1=k))=(atKey xs k).isSome:=by
  rw [valV_any,(r.val k).isSome_eq,Option.isSome_map]
 unfold putK storedH
 rw [e]
 by_cases q:(atKey xs k).isSome=true
 ·rw [if_pos q,if_pos q]; exact r.repl k ry
 ·rw [if_neg q,if_neg q]; exact Paired.snoc r ⟨rfl,hb,ry⟩
theorem KT.keeps {H H':Hp} {kvs:List (List Key×V)} {xs:List (List Key×Addr×Value)} (r:KT H kvs xs) (ht:∀ b ys,H b=some (.tup ys)→H' b=some (.tup ys)):KT H' kvs xs:=
 Paired.mapP r fun _ _ z=>⟨z.1,ht _ _ z.2.1,z.2.2⟩
section
variable {P:Program} {w:World} {H:Hp} {h:Heap} {a:Addr}
theorem rd_of {u:HO} (ok:HOk P w H h) (e:Rd H a u):ObjOk P w H h a u:=e.ok ok
theorem dk_rd {kvs:List (Key×V)} (ok:HOk P w H h) (e:Rd H a (.dK kvs)):kvs.length≤sizeLine∧(a==sysModules)=false∧∃ vs,KV kvs vs∧h.DictOf (mixKind P w) a vs:=
 show ObjOk P w H h a (.dK kvs) from rd_of ok e
theorem dk_of {kvs:List (Key×V)} (ok:HOk P w H h) (e:H a=some (.dK kvs)):kvs.length≤sizeLine∧(a==sysModules)=false∧∃ vs,KV kvs vs∧h.DictOf (mixKind P w) a vs:=dk_rd ok (.inl e)
theorem key_of {ks:List Key} (ok:HOk P w H h) (e:H a=some (.tup (ks.map kV))):(tupleKind (mixKind P w)).is h ks a:=by
 obtain ⟨_,its,r,o,h1,h2,n,h3⟩:=(show ObjOk P w H h a (.tup (ks.map kV)) from ok a _ e)
 exact ⟨o,its.toArray,n,h1,h2,h3,by simpa using items_are r⟩
theorem dt_rd {kvs:List (List Key×V)} (ok:HOk P w H h) (e:Rd H a (.dT kvs)):kvs.length≤sizeLine∧(a==sysModules)=false∧
  ∃ xs,KT H kvs xs∧h.DictOfH (tupleKind (mixKind P w)) a xs:=by
 obtain ⟨z,y,xs,r,o,es,ep,h1,h2,h3,h4,h5⟩:=(show ObjOk P w H h a (.dT kvs) from rd_of ok e)
 refine ⟨z,y,xs,r,o,es,ep,h1,h2,h3,h4,fun x hx=>?_,h5⟩
 have all:∀ {l:List (List Key×V)} {m:List (List Key×Addr×Value)},KT H l m→∀ x∈m,(tupleKind (mixKind P w)).is h x.1 x.2.1:=by
  intro l m q
  induction q with
  | nil=>intro x hx; exact nomatch hx
  | @cons p q ps qs hq t ih=>
   intro x hx
   rcases List.mem_cons.mp hx with e | hx
   ·subst e
    exact key_of ok (by rw [← hq.1]; exact hq.2.1)
   ·exact ih x hx
 exact all r x hx
theorem dt_of {kvs:List (List Key×V)} (ok:HOk P w H h) (e:H a=some (.dT kvs)):kvs.length≤sizeLine∧(a==sysModules)=false∧
  ∃ xs,KT H kvs xs∧h.DictOfH (tupleKind (mixKind P w)) a xs:=dt_rd ok (.inl e)
end
def DGet (H:Hp) (a:Addr) (y:V) (r:Option V):Prop:=
 (∃ kvs k,Rd H a (.dK kvs)∧y=kV k∧r=valV kvs k)∨∃ kvs k b,Rd H a (.dT kvs)∧y=.ref b∧H b=some (.tup (k.map kV))∧r=valV kvs k
def DPut (H:Hp) (a:Addr) (y v:V) (H':Hp):Prop:=
 (∃ kvs k,H a=some (.dK kvs)∧y=kV k∧kvs.length < sizeLine∧H'=upd H a (.dK (putK kvs k v)))∨
 ∃ kvs k b,H a=some (.dT kvs)∧y=.ref b∧H b=some (.tup (k.map kV))∧kvs.length < sizeLine∧H'=upd H a (.dT (putK kvs k v))
theorem DGet.k {H:Hp} {a:Addr} {kvs:List (Key×V)} {k:Key} (e:H a=some (.dK kvs)):DGet H a (kV k) (valV kvs k):=.inl ⟨kvs,k,.inl e,rfl,rfl⟩
theorem DGet.t {H:Hp} {a b:Addr} {kvs:List (List Key×V)} {k:List Key} (e:H a=some (.dT kvs)) (eb:H b=some (.tup (k.map kV))):DGet H a (.ref b) (valV kvs k):=.inr ⟨kvs,k,b,.inl e,rfl,eb,rfl⟩
theorem DPut.k {H:Hp} {a:Addr} {kvs:List (Key×V)} {k:Key} {v:V} (e:H a=some (.dK kvs)) (hl:kvs.length < sizeLine):DPut H a (kV k) v (upd H a (.dK (putK kvs k v))):=.inl ⟨kvs,k,e,rfl,hl,rfl⟩
theorem DPut.t {H:Hp} {a b:Addr} {kvs:List (List Key×V)} {k:List Key} {v:V} (e:H a=some (.dT kvs)) (eb:H b=some (.tup (k.map kV))) (hl:kvs.length < sizeLine) :
  DPut H a (.ref b) v (upd H a (.dT (putK kvs k v))):=.inr ⟨kvs,k,b,e,rfl,eb,hl,rfl⟩
section
variable {X:Cx} {pins:List (Addr×Obj)} {σ:St} {H:Hp} {s:Shared} {a:Addr} {y v:V} {u r:Value} {o:Option V} {A:Around} {E:Value→Shared→Prop}
theorem Inv.big (I:Inv X pins σ H s):sysModules < s.heap.objs.size:=by
 have h:mainGlobals < s.heap.objs.size:=(I.mod.glob.keeps I.bk).lt
 exact Nat.lt_trans (by decide) h
theorem d_getItem {Q:Value→Shared→Prop} (hu:A.units+1 < cLine) (I:Inv X pins σ H s) (g:DGet H a y (some v)) (ry:RelV y u) (h:∀ w' s',Inv X pins σ H s'→RelV v w'→Q w' s') :
  wpAny (model X.prog X.w) A (getItem (.ref a) u) Q E s:=by
 rcases g with ⟨kvs,k,e,ey,l⟩ | ⟨kvs,k,b,e,ey,eb,l⟩
 ·subst ey
  obtain ⟨z,hd,vs,rel,dd⟩:=dk_rd I.hok e
  obtain ⟨w',hw,rw'⟩:=RelO.some_of (v:=v) (o:=valueAt vs k) (by rw [l]; exact rel.val k)
  exact wpAny_getItem_of (kV_is ry) dd.mapOf hw (h w' _ (I.tok _) rw')
 ·subst ey
  cases (show u=Value.ref b from ry)
  obtain ⟨z,hd,xs,rel,dd⟩:=dt_rd I.hok e
  obtain ⟨w',hw,rw'⟩:=RelO.some_of (v:=v) (o:=(atKey xs k).map (·.2)) (by rw [l]; exact rel.val k)
  obtain ⟨p,hp,hp2⟩:=Option.map_eq_some_iff.mp hw
  refine wpAny_getItem_heap (tupleKind_room_in1 hu) (key_of I.hok eb) dd hp ?_
  rw [hp2]
  exact h w' _ (I.tok _) rw'
theorem d_write {h':Heap} {t':Nat} {ob:HO} (I:Inv X pins σ H s) (mu:Mut (H a)) (hs:Heap.SameBut a s.heap h') (he:∃ q,h'.get? a=some q) (new:ObjOk X.prog X.w (upd H a ob) h' a ob) :
  Inv X pins σ (upd H a ob) { s with heap:=h',toks:=t' }:=
 I.write (x:=a) (e:=a) mu (.inl rfl) (fun b q hb z=>(hs.2 b hb).trans z) he new
theorem dk_new {P:Program} {w:World} {H':Hp} {h':Heap} {kvs:List (Key×V)} {vs:List (Key×Value)} (z:kvs.length≤sizeLine) (hd:(a==sysModules)=false) (rel:KV kvs vs) (dd:h'.DictOf (mixKind P w) a vs) :
  ObjOk P w H' h' a (.dK kvs):=⟨z,hd,vs,rel,dd⟩
theorem d_setItem {H':Hp} {Q:Unit→Shared→Prop} (hu:A.units+1 < cLine) (I:Inv X pins σ H s) (g:DPut H a y v H') (ry:RelV y u) (rv:RelV v r) (h:∀ s',Inv X pins σ H' s'→Q () s') :
  wpAny (model X.prog X.w) A (setItem (.ref a) u r) Q E s:=by
 rcases g with ⟨kvs,k,e,ey,l,eH⟩ | ⟨kvs,k,b,e,ey,eb,l,eH⟩
 ·subst ey eH
  obtain ⟨z,hd,vs,rel,dd⟩:=dk_of I.hok e
  have hz:vs.length≤sizeLine:=by rw [← rel.length]; exact z
  have hl:(putK kvs k v).length≤sizeLine:=by have:=length_putK kvs k v; omega
  refine wpAny_setItem_pairs (hsz:=hz) (kV_is ry) dd fun h' dd' hs=>h _ ?_
  have he:∃ q,h'.get? a=some q:=let ⟨q,_,_,hq,_⟩:=dd'; ⟨q,hq⟩
  exact d_write I (by rw [e]; exact True.intro) hs he (dk_new hl hd (rel.put k rv) dd')
 ·subst ey eH
  cases (show u=Value.ref b from ry)
  obtain ⟨z,hd,xs,rel,dd⟩:=dt_of I.hok e
  have hz:xs.length≤sizeLine:=by rw [← Paired.length rel]; exact z
  have hl:(putK kvs k v).length≤sizeLine:=by have:=length_putK kvs k v; omega
  refine wpAny_setItem_heap (hsz:=hz) (tupleKind_room_in1 hu) (key_of I.hok eb) dd fun h' dd' hs=>h _ ?_
  obtain ⟨q,es,ep,hq,h2,h3,h4,_,h5⟩:=dd'
  refine d_write I (by rw [e]; exact True.intro) hs ⟨q,hq⟩ ⟨hl,hd,_,(rel.put k eb rv).keeps fun c ys ec=>?_,q,es,ep,hq,h2,h3,h4,h5⟩
  rw [upd_ne (ne_of ec e (fun z=>nomatch z))]
  exact ec
end
section
variable {X:Cx} {pins:List (Addr×Obj)} {σ:St} {H:Hp} {s:Shared} {a:Addr} {kvs:List (Key×V)} {k:Key} {u:Value} {A:Around} {E:Value→Shared→Prop}
theorem d_len {Q:Value→Shared→Prop} (I:Inv X pins σ H s) (e:Rd H a (.dK kvs)) (h:∀ t s',Inv X pins σ H s'→Q (.int kvs.length t) s'):wpAny (model X.prog X.w) A (call (.builtin "len") [.ref a]) Q E s:=by
 obtain ⟨z,hd,vs,rel,dd⟩:=dk_rd I.hok e
 refine call_len_dict hd dd (by rw [← rel.length]; rw [sizeLine_eq] at z; omega) ?_
 rw [← rel.length]
 exact h _ _ (I.tok _)
end
def NoSl (i:Expr):Prop:=∀ ov iv,subscripted i false ov iv=operate [ov,iv] (getItem ov iv)
theorem subD_of {prog:Program} {w:World} {A:Around} {E:Value→Shared→Prop} {s:Shared} {env:Env} {value slice:Expr} {pos:Pos} {T id:String} {Q:Value→Shared→Prop}
  (hl:typeLookup (.type T) "__getitem__"=pure (some (.builtin id))) (hs:NoSl slice)
  (h:wpAny (model prog w) A (eval value env) (fun o s₁=>wpAny (model prog w) A (eval slice env) (fun i s₂=>s₂.TypeIs o T∧wpAny (model prog w) A (getItem o i) Q E s₂) E s₁) E s) :
  wpAny (model prog w) A (eval (.Subscript value slice pos) env) Q E s:=by
 refine Subscript_ (wpAny_mono h (fun o s₁ h₁=>wpAny_mono h₁ (fun i s₂ h₂=>?_) fun _ _ x=>x) fun _ _ x=>x)
 obtain ⟨hT,h₂⟩:=h₂
 unfold subscriptTail
 refine wpAny_bind ?_
 rw [getitemInPython_of_ne hT.not_modules]
 refine wpAny_bind (wpAny_specialOf hT hl ?_)
 have fin:wpAny (model prog w) A (subscripted slice false o i) (fun r s₃=>wpAny (model prog w) A (letTemporaryGo value o r >>= fun _=>pure r) Q E s₃) E s₂:=by
  rw [hs o i]
  exact wpAny_operating (wpAny_mono h₂ (fun r s₃ h₃=>wpAny_bind (wpAny_letTemporaryGo (wpAny_pure h₃))) fun _ _ x=>x)
 first
  | exact wpAny_pure (wpAny_bind fin)
  | exact wpAny_bind (wpAny_pure (wpAny_bind fin))
  | exact wpAny_bind fin
theorem dict_typeIs {X:Cx} {pins:List (Addr×Obj)} {σ:St} {H:Hp} {s:Shared} {a:Addr} {y:V} {o:Option V} (I:Inv X pins σ H s) (g:DGet H a y o):s.TypeIs (.ref a) "dict":=by
 rcases g with ⟨kvs,k,e,_,_⟩ | ⟨kvs,k,b,e,_,_,_⟩
 ·obtain ⟨_,_,vs,_,dd⟩:=dk_rd I.hok e
  exact dd.typeIs
 ·obtain ⟨_,_,xs,_,dd⟩:=dt_rd I.hok e
  exact dd.typeIs
def tDGet (td ty:TE):TE:=fun σ H Q=>td σ H fun x H1=>ty σ H1 fun y H2=>∃ a v,x=.ref a∧DGet H2 a y (some v)∧Q v H2
def sDPut (td ty tv:TE):TS:=fun D σ H=>tv σ H fun v H1=>td σ H1 fun x H2=>ty σ H2 fun y H3=>∃ a H4,x=.ref a∧DPut H3 a y v H4∧D.nx σ H4
section
variable {X:Cx} {o i e value:Expr} {pos pos' tpos:Pos} {td ty tv:TE}
theorem pe_dget (hu:X.A.units+1 < cLine) (ho:PE X o td) (hi:PE X i ty) (hs:NoSl i):PE X (.Subscript o i pos) (tDGet td ty):=by
 intro pins s σ H Q I h
 refine subD_of PySem.F.slot_dict_getitem.lookup hs (thn (ho pins s σ H _ I h) fun u s1 ⟨x,H1,I1,rx,q1⟩=>thn (hi pins s1 σ H1 _ I1 q1) fun iv s2 ⟨y,H2,I2,ry,a,v,ex,g,q2⟩=>?_)
 subst ex
 obtain rfl:u=Value.ref a:=rx
 exact ⟨dict_typeIs I2 g,d_getItem hu I2 g ry fun w' s3 I3 rw'=>⟨v,H2,I3,rw',q2⟩⟩
theorem ps_dput (hu:X.A.units+1 < cLine) (ho:PE X o td) (hi:PE X i ty) (hv:PE X value tv) (hs:swapsWith value (some (.Subscript o i pos')) pos.line X.env=pure false) :
  PS X (.Assign [.Subscript o i pos'] value pos) (sDPut td ty tv):=by
 intro pins s σ H D I h
 refine wpAny_Assign_Subscript (thn (hv pins s σ H _ I h) fun r s1 ⟨v,H1,I1,rv,q1⟩=>thn (ho pins s1 σ H1 _ I1 q1) fun u s2 ⟨x,H2,I2,rx,q2⟩=>thn (hi pins s2 σ H2 _ I2 q2) fun iv s3 ⟨y,H3,I3,ry,a,H4,ex,g,q3⟩=>?_) hs
 subst ex
 obtain rfl:u=Value.ref a:=rx
 exact d_setItem hu I3 g ry rv fun s4 I4=>⟨σ,H4,I4,q3⟩
end
theorem dk_empty {P:Program} {w:World} {H:Hp} (h:Heap) (hb:sysModules < h.objs.size):ObjOk P w H (h.push { cls:=.type "dict",data:=.dict #[] }) h.objs.size (.dK []):=
 ⟨Nat.zero_le _,beq_eq_false_iff_ne.mpr (Ne.symm (Nat.ne_of_lt hb)),[],.nil,Heap.DictOf.new h⟩
theorem dt_empty {P:Program} {w:World} {H:Hp} (h:Heap) (hb:sysModules < h.objs.size):ObjOk P w H (h.push { cls:=.type "dict",data:=.dict #[] }) h.objs.size (.dT []):=
 ⟨Nat.zero_le _,beq_eq_false_iff_ne.mpr (Ne.symm (Nat.ne_of_lt hb)),[],.nil,_,#[],0,Heap.get?_push_size _ rfl,⟨rfl,rfl,rfl⟩,rfl,rfl,List.nodup_nil⟩
def tDNewK:TE:=fun _ H Q=>∀ p,H p=none→Q (.ref p) (upd H p (.dK []))
def tDNewT:TE:=fun _ H Q=>∀ p,H p=none→Q (.ref p) (upd H p (.dT []))
section
variable {X:Cx} {pos:Pos}
theorem pe_dnewK:PE X (.Dict [] [] pos) tDNewK:=fun pins s σ H Q I h=>
 wpAny_Dict_empty ⟨.ref s.heap.objs.size,_,I.laid (a:=s.heap.objs.size) (o:=.dK []) (t':=s.toks) (fun _ _ q=>Heap.get?_push_of_some _ q) (Nat.le_refl _) (dk_empty s.heap I.big),rfl,h _ (I.hok.fresh (Nat.le_refl _))⟩
theorem pe_dnewT:PE X (.Dict [] [] pos) tDNewT:=fun pins s σ H Q I h=>
 wpAny_Dict_empty ⟨.ref s.heap.objs.size,_,I.laid (a:=s.heap.objs.size) (o:=.dT []) (t':=s.toks) (fun _ _ q=>Heap.get?_push_of_some _ q) (Nat.le_refl _) (dt_empty s.heap I.big),rfl,h _ (I.hok.fresh (Nat.le_refl _))⟩
end
structure M1 (X:Cx) (o:Expr) (m:Str) (apos:Pos) (e:Expr) (cpos:Pos):Prop where
 base:attributeBase o m X.env (eval o X.env)=eval o X.env
 few:((backTo cpos (starEach [e] X.env)).all (fun x=>!x.1)&&(backToKw cpos (keywordEach [] X.env)).all (fun x=>x.1.isSome)
  && decide (([e]:List Expr).length+([]:List Keyword).length+(if ([]:List Keyword).isEmpty then 0 else 1) < 30))=true
 line:(apos.endLine==cpos.line)=true
 trees:backTo cpos (starEach [e] X.env)=[(false,eval e X.env)]
section
variable {X:Cx} {pins:List (Addr×Obj)} {σ:St} {H:Hp} {s:Shared} {a:Addr} {y d:V} {u r:Value} {o:Option V} {A:Around} {E:Value→Shared→Prop}
end
section
variable {X:Cx} {o e f:Expr} {apos cpos:Pos} {td ty tx:TE}
end
section
variable {X:Cx} {pins:List (Addr×Obj)} {σ:St} {H:Hp} {s:Shared} {a:Addr} {kvs:List (Key×V)} {A:Around} {E:Value→Shared→Prop}
end
section
variable {X:Cx} {pins:List (Addr×Obj)} {σ:St} {H:Hp} {s:Shared} {a:Addr} {y:V} {u:Value} {A:Around} {E:Value→Shared→Prop}
end
end L2
namespace L2
open PySem PySem.Spec PyProof.Rows
section
variable {X:Cx}
theorem call_lenD:CallR X (.builtin "len") (fun xs H Q=>∃ a kvs,xs=[V.ref a]∧H a=some (.dK kvs)∧Q (.int kvs.length) H):=by
 intro pins s σ H xs us Q I r h
 obtain ⟨a,kvs,rfl,ha,q⟩:=h
 obtain ⟨u,rfl,ru⟩:=vals1 r
 cases ru
 exact d_len I (.inl ha) fun t s' I'=>⟨.int kvs.length,H,I',⟨t,rfl⟩,q⟩
end
section
variable {κ:Type} [DecidableEq κ]
end
end L2
set_option maxHeartbeats 4000000
namespace L2
open PySem PySem.Spec PyProof.Rows
def closOf (env:Env):List (Str×NameKind)→List (Str×Addr)→List (Str×Addr)
 | [],acc=>acc
 | (n,k) :: r,acc=>closOf env r (if (k==NameKind.free)=true then (n,(env.cells.lookup n).getD 0) :: acc else acc)
theorem clos_loop {env:Env} (f:(Str×NameKind)→List (Str×Addr)→Sem (ForInStep (List (Str×Addr))))
  (hf:∀ n k acc,f (n,k) acc=if (k==NameKind.free)=true then (cellOf env n >>= fun a=>pure (.yield ((n,a) :: acc))) else pure (.yield acc)) :
  ∀ (l:List (Str×NameKind)) (acc:List (Str×Addr)),(∀ y∈l,y.2=.free→∃ c,env.cells.lookup y.1=some c)→forIn l acc f=(pure (closOf env l acc):Sem _)
 | [],acc,_=>rfl
 | (n,k) :: r,acc,h=>by
  rw [List.forIn_cons,hf]
  have hr:∀ y∈r,y.2=.free→∃ c,env.cells.lookup y.1=some c:=fun y hy=>h y (List.mem_cons_of_mem _ hy)
  unfold closOf
  cases hk:(k==NameKind.free) with
  | true=>
   obtain ⟨c,hc⟩:=h (n,k) List.mem_cons_self (by simpa using hk)
   rw [if_pos rfl,if_pos rfl]
   have hc':env.cells.lookup n=some c:=hc
   simp only [cellOf,hc',pure_bind,Option.getD_some]
   exact clos_loop f hf r _ hr
  | false=>
   rw [if_neg Bool.false_ne_true,if_neg Bool.false_ne_true,pure_bind]
   exact clos_loop f hf r acc hr
theorem closureFor_eq {scope:Scope} {env:Env} (h:∀ y∈scope.names,y.2=.free→∃ c,env.cells.lookup y.1=some c):closureFor scope env=pure (closOf env scope.names []):=by
 simp only [closureFor]
 rw [clos_loop (env:=env) _ (fun n k acc=>?_) scope.names [] h,pure_bind]
 cases hk:(k==NameKind.free) <;> simp [hk]
theorem closOf_sub {env:Env}:∀ {l:List (Str×NameKind)} {acc:List (Str×Addr)},(∀ y∈l,y.2=.free→∃ c,env.cells.lookup y.1=some c)→(∀ x c,acc.lookup x=some c→env.cells.lookup x=some c)→
  ∀ x c,(closOf env l acc).lookup x=some c→env.cells.lookup x=some c
 | [],_,_,ha,x,c,e=>ha x c e
 | (n,k) :: r,acc,h,ha,x,c,e=>by
  unfold closOf at e
  refine closOf_sub (l:=r) (fun y hy=>h y (List.mem_cons_of_mem _ hy)) (fun x c e=>?_) x c e
  cases hk:(k==NameKind.free) with
  | false=>rw [hk,if_neg Bool.false_ne_true] at e; exact ha x c e
  | true=>
   rw [hk,if_pos rfl,List.lookup_cons] at e
   cases hx:x==n with
   | false=>rw [hx] at e; exact ha x c e
   | true=>
    rw [hx] at e
    obtain ⟨d,hd⟩:=h (n,k) List.mem_cons_self (by simpa using hk)
    have hd':env.cells.lookup n=some d:=hd
    rw [hd',Option.getD_some] at e
    cases e
    rw [beq_iff_eq.mp hx]; exact hd'
theorem closOf_keep {env:Env}:∀ {l:List (Str×NameKind)} {acc:List (Str×Addr)} {x:Str},(acc.lookup x).isSome=true→((closOf env l acc).lookup x).isSome=true
 | [],_,_,h=>h
 | (n,k) :: r,acc,x,h=>by
  unfold closOf
  refine closOf_keep (l:=r) ?_
  cases hk:(k==NameKind.free) with
  | false=>rw [if_neg Bool.false_ne_true]; exact h
  | true=>
   rw [if_pos rfl,List.lookup_cons]
   cases hx:x==n with
   | false=>exact h
   | true=>rfl
theorem closOf_has {env:Env}:∀ {l:List (Str×NameKind)} {acc:List (Str×Addr)} {y:Str×NameKind},y∈l→y.2=.free→((closOf env l acc).lookup y.1).isSome=true
 | (n,k) :: r,acc,y,hy,hk=>by
  unfold closOf
  rcases List.mem_cons.mp hy with e | hy
  ·subst e
   have hk':(k==NameKind.free)=true:=by simpa using hk
   rw [hk',if_pos rfl]
   exact closOf_keep (by rw [List.lookup_cons]; simp)
  ·exact closOf_has hy hk
structure CompScope (NX:List Str) (SX scope:Scope) (N:List Str) (own:Nat) (fi:List Nat):Prop where
 kind:scope.kind=.function
 nocell:∀ y∈scope.names,y.2≠.cell
 names:∀ y∈scope.names,y.2=.local→scope.names.lookup y.1=some .local
 free:∀ y∈scope.names,y.2=.free→SX.names.lookup y.1=some .cell∨SX.names.lookup y.1=some .free
 len:N.length=own+fi.length
 outs:∀ p∈(N.drop own).zip fi,NX[p.2]? = some p.1∧scope.names.lookup p.1=some .free
def compSt (own:Nat) (fi:List Nat) (σ:St):St:=List.replicate own none++fi.map fun i=>(σ[i]?).join
def Cx.comp (X:Cx) (scope:Scope) (N:List Str) (ex:List Addr) (s:Shared) (H:Hp):Cx:=
 { X with N:=N,s₀:=s,H₀:=H,env:=compEnvC scope (closOf X.env scope.names []) s.heap.objs.size X.env,outer:=X.stack,stack:=X.stack,ex:=ex,fn:=fun _=>false,pn:=[],xe:=fun _ _=>False }
theorem lookup_relabel {env:Env} {x:Str}:∀ {names:List (Str×NameKind)},(∀ y∈names,y.2≠.cell)→
  (∀ k,(names.map fun (n,k)=>if (k==NameKind.free&&env.scope.kind==.function&&env.kindOf n==some .cell) then (n,NameKind.cell) else (n,k)).lookup x=some k→k=.cell∨k=.free→names.lookup x=some .free)
 | [],_,k,h,_=>by simp at h
 | (n,k0) :: r,hc,k,h,hk=>by
  have ih:=@lookup_relabel env x r (fun y hy=>hc y (List.mem_cons_of_mem _ hy)) k
  rw [List.map_cons] at h
  have h0:k0≠.cell:=hc (n,k0) List.mem_cons_self
  cases hx:x==n with
  | false=>
   have e:∀ z:NameKind,List.lookup x ((n,z) :: (r.map fun (n,k)=>if (k==NameKind.free&&env.scope.kind==.function&&env.kindOf n==some .cell) then (n,NameKind.cell) else (n,k)))=List.lookup x (r.map fun (n,k)=>if (k==NameKind.free&&env.scope.kind==.function&&env.kindOf n==some .cell) then (n,NameKind.cell) else (n,k)):=fun z=>by rw [List.lookup_cons,hx]
   rw [List.lookup_cons,hx]
   refine ih ?_ hk
   by_cases hcnd:(k0==NameKind.free&&env.scope.kind==.function&&env.kindOf n==some .cell)=true
   ·simp only [hcnd,if_true] at h; rw [e] at h; exact h
   ·simp only [Bool.not_eq_true] at hcnd; simp only [hcnd] at h; rw [if_neg Bool.false_ne_true,e] at h; exact h
  | true=>
   rw [List.lookup_cons,hx]
   show some k0=some .free
   by_cases hcnd:(k0==NameKind.free&&env.scope.kind==.function&&env.kindOf n==some .cell)=true
   ·have:(k0==NameKind.free)=true:=by
     simp only [Bool.and_eq_true] at hcnd; exact hcnd.1.1
    rw [beq_iff_eq.mp this]
   ·simp only [Bool.not_eq_true] at hcnd
    simp only [hcnd] at h
    rw [if_neg Bool.false_ne_true,List.lookup_cons,hx] at h
    cases h
    rcases hk with z | z
    ·exact absurd z h0
    ·rw [z]
theorem lookup_relabel_free {env:Env} {x:Str}:∀ {names:List (Str×NameKind)},names.lookup x=some .free→
  (names.map fun (n,k)=>if (k==NameKind.free&&env.scope.kind==.function&&env.kindOf n==some .cell) then (n,NameKind.cell) else (n,k)).lookup x=some .cell∨
  (names.map fun (n,k)=>if (k==NameKind.free&&env.scope.kind==.function&&env.kindOf n==some .cell) then (n,NameKind.cell) else (n,k)).lookup x=some .free
 | [],h=>by simp at h
 | (n,k0) :: r,h=>by
  rw [List.map_cons]
  cases hx:x==n with
  | false=>
   rw [List.lookup_cons,hx] at h
   have ih:=@lookup_relabel_free env x r h
   by_cases hcnd:(k0==NameKind.free&&env.scope.kind==.function&&env.kindOf n==some .cell)=true
   ·simp only [hcnd,if_true,List.lookup_cons,hx]; exact ih
   ·simp only [Bool.not_eq_true] at hcnd; simp only [hcnd]; rw [if_neg Bool.false_ne_true,List.lookup_cons,hx]; exact ih
  | true=>
   rw [List.lookup_cons,hx] at h
   cases h
   by_cases hcnd:(NameKind.free==NameKind.free&&env.scope.kind==.function&&env.kindOf n==some .cell)=true
   ·left; simp only [hcnd,if_true,List.lookup_cons,hx]
   ·right; simp only [Bool.not_eq_true] at hcnd; simp only [hcnd]; rw [if_neg Bool.false_ne_true,List.lookup_cons,hx]
section
variable {X:Cx} {pins:List (Addr×Obj)} {σ:St} {H:Hp} {s:Shared} {NX N:List Str} {SX scope:Scope} {own:Nat} {fi:List Nat}
theorem CompScope.cells (S:CompScope NX SX scope N own fi) (hS:X.env.scope=SX) (ok:X.Ok):∀ y∈scope.names,y.2=.free→∃ c,X.env.cells.lookup y.1=some c:=fun y hy hk=>by
 refine ok.has y.1 ?_
 have:=S.free y hy hk
 rw [← hS] at this
 exact this
theorem Inv.comp {fp : List Addr} {h₁ : Heap} {t' : Nat} (S : CompScope NX SX scope N own fi) (hN : X.N = NX) (hS : X.env.scope = SX) (I : Inv X pins σ H s) (hfp : ∀ b ∈ fp, FpOk X pins H b) (hlt : ∀ b ∈ fp, b < s.heap.objs.size)
    (hns : h₁.Ns s.heap.objs.size (fun _ => none)) (k : ∀ b o, s.heap.get? b = some o → h₁.get? b = some o) :
    Inv (X.comp scope N fp s H) [] (compSt own fi σ) H { s with heap := h₁, toks := t' } := by
  have hcl := S.cells hS I.ok
  have sub : ∀ x c, (closOf X.env scope.names []).lookup x = some c → X.env.cells.lookup x = some c := closOf_sub hcl fun x c e => by simp at e
  have kinds : ∀ x, ((X.comp scope N fp s H).env.kindOf x = some .cell ∨ (X.comp scope N fp s H).env.kindOf x = some .free) → scope.names.lookup x = some .free := fun x hx => by
    rcases hx with hx | hx
    · exact lookup_relabel S.nocell _ hx (.inl rfl)
    · exact lookup_relabel S.nocell _ hx (.inr rfl)
  refine ⟨⟨I.ok.mod, S.kind, I.ok.glob, I.ok.blt, Nat.le_refl _, fun x y c h1 h2 => I.ok.inj x y c (sub _ _ h1) (sub _ _ h2), fun x hx => ?_, fun x c h => by exact absurd (show false = true from h) Bool.false_ne_true, I.ok.hd, I.ok.frames, .inl rfl,
    fun b hb => ⟨?_, fun x c e => (hfp b hb).2.2.2.2.1 x c (sub x c e)⟩, I.bs, Nat.le_trans I.ok.bsz I.sz, fun b o e hb => ?_, fun b hb hf => ?_, I.stack, I.stkFree⟩,
    rfl, I.bare, Un.kept k, ⟨_, hns, fun i x v e1 e2 e3 => ?_⟩, fun x c e => ?_, I.hok.fresh (Nat.le_refl _), fun x c e => I.freeC x c (sub x c e), fun p hp => absurd (show p ∈ ([] : List (Addr × Obj)) from hp) (by simp), I.hok.kept k, ?_⟩
  · have := closOf_has (env := X.env) (acc := []) (PySem.mem_of_lookup (kinds x hx)) rfl
    exact Option.isSome_iff_exists.mp this
  · exact Nat.ne_of_lt (hlt b hb)
  · rcases (hfp b hb).2.2.2.1 with z | z
    · exact I.ok.noex b o e z
    · exact absurd (Nat.lt_of_lt_of_le (Heap.lt_size e) (Nat.le_trans I.ok.bsz z)) (Nat.lt_irrefl _)
  · rcases List.mem_cons.mp (I.stkSub b hf) with z | z
    · exact (hfp b hb).2.1 z
    · exact (hfp b hb).2.2.1 z
  · -- the names from around
    have hi : own ≤ i := by
      by_cases hi : i < own
      · have : (compSt own fi σ)[i]? = some none := by
          unfold compSt
          rw [List.getElem?_append_left (by simpa using hi), List.getElem?_replicate, if_pos hi]
        rw [this] at e2; cases e2
      · omega
    have e2' : (fi.map fun i => (σ[i]?).join)[i - own]? = some (some v) := by
      unfold compSt at e2
      rw [List.getElem?_append_right (by simpa using hi), List.length_replicate] at e2
      exact e2
    rw [List.getElem?_map] at e2'
    cases ef : fi[i - own]? with
    | none => rw [ef] at e2'; cases e2'
    | some j =>
      rw [ef] at e2'
      have e4 : (σ[j]?).join = some v := by simpa using e2'
      have e5 : σ[j]? = some (some v) := by
        cases q : σ[j]? with
        | none => rw [q] at e4; cases e4
        | some z => rw [q] at e4; have e4' : z = some v := by simpa using e4
                    rw [e4']
      have e1' : N[i]? = some x := e1
      have hz : (x, j) ∈ (N.drop own).zip fi := by
        refine List.mem_of_getElem? (i := i - own) ?_
        rw [List.getElem?_zip_eq_some]
        refine ⟨?_, ef⟩
        rw [List.getElem?_drop]
        have : own + (i - own) = i := by omega
        rw [this]; exact e1'
      obtain ⟨o1, o2⟩ := S.outs (x, j) hz
      obtain ⟨m, hn, hl⟩ := I.loc
      have vis : SX.names.lookup x = some .cell ∨ SX.names.lookup x = some .free := S.free (x, .free) (PySem.mem_of_lookup o2) rfl
      have vis' : X.env.scope.names.lookup x = some .cell ∨ X.env.scope.names.lookup x = some .free := by rw [hS]; exact vis
      obtain ⟨u, r, l⟩ := hl j x v (by rw [hN]; exact o1) e5 (.inr vis')
      refine ⟨u, r, .inr ?_⟩
      rcases l with ⟨hk, _⟩ | ⟨_, c, hc, hcell⟩
      · have hk' : X.env.scope.names.lookup x = some .local := hk
        rcases vis' with z | z <;> (rw [z] at hk'; cases hk')
      · refine ⟨lookup_relabel_free (env := X.env) o2, c, ?_, hcell.keeps k⟩
        have hh := closOf_has (env := X.env) (acc := []) (PySem.mem_of_lookup o2) rfl
        obtain ⟨c', hc'⟩ := Option.isSome_iff_exists.mp hh
        have := sub x c' hc'
        rw [hc] at this; cases this
        exact hc'
  · obtain ⟨v, q⟩ := I.cell x c (sub x c e)
    exact ⟨v, q.keeps k⟩
  · unfold compSt
    show _ = N.length
    rw [List.length_append, List.length_replicate, List.length_map, S.len]
end
section
variable {prog:Program} {w:World} {A:Around} {R:Result→Shared→Prop} {s:Shared}
theorem compLoop_go {elt target iter : Expr} {ifs : List Expr} {scope : Scope} {pos : Pos} {it acc : Value} {env : Env} (I : Nat → Shared → Prop) {F : Value → Shared → Prop} (hF : ∀ e s, F e s → False)
    (turn : ∀ n s, I n s → wpAny (model prog w) A (pyNext it) (fun r s₁ => match r with
      | none => R (.ok .next) s₁
      | some v => wpAny (model prog w) A (letOwnedTupleGo target it v) (fun _ s₁' => wpAny (model prog w) A (assign target env v) (fun _ s₂ =>
          wpAny (model prog w) A (forIn ifs true fun c r => if r = true then do let ok ← isTrue c env (eval c env); pure (ForInStep.yield ok) else pure (ForInStep.yield r)) (fun ok s₃ =>
            if ok = true then wpAny (model prog w) A (eval elt env) (fun x s₄ =>
              wpAny (model prog w) A (call (.builtin "list.append") [acc, x]) (fun _ s₅ => ∃ m, m < n ∧ I m s₅) F s₄) F s₃
            else ∃ m, m < n ∧ I m s₃) F s₂) F s₁') F s₁) F s)
    (n : Nat) (h : I n s) :
    codeAny (model prog w) A (.compLoop (.ListComp elt [⟨target, iter, ifs, 0⟩] scope pos) 0 it acc env) R s := by
  refine codeAny_loop rfl I (fun n s hI => ?_) n h
  show wpAny _ A ((compTurn (.ListComp elt [⟨target, iter, ifs, 0⟩] scope pos) 0 it acc env).onRaise (fun x => do noteFrame x env; theTreesLotGoes x)) _ _ s
  refine wpAny_noted ?_
  rw [compTurn_list]
  refine wpAny_bind (wpAny_standAt (wpAny_bind (wpAny_mono (turn n s hI) (fun r s₁ h₁ => ?_) fun _ _ h' => (hF _ _ h').elim)))
  cases r with
  | none => exact wpAny_pure h₁
  | some v =>
    refine wpAny_bind (wpAny_mono h₁ (fun _ s₁' h₁' => ?_) fun _ _ h' => (hF _ _ h').elim)
    refine wpAny_bind (wpAny_mono h₁' (fun _ s₂ h₂ => wpAny_bind (wpAny_mono h₂ (fun ok s₃ h₃ => ?_) fun _ _ h' => (hF _ _ h').elim)) fun _ _ h' => (hF _ _ h').elim)
    cases ok with
    | false => exact wpAny_pure ⟨rfl, h₃⟩
    | true =>
      exact wpAny_bind (wpAny_bind (wpAny_mono h₃ (fun x s₄ h₄ => wpAny_bind (wpAny_mono h₄ (fun _ s₅ h₅ => wpAny_pure (wpAny_pure ⟨rfl, h₅⟩)) fun _ _ h' => (hF _ _ h').elim)) fun _ _ h' => (hF _ _ h').elim))
end
def PIf (X:Cx) (ifs:List Expr) (t:TT):Prop:=
 ∀ (pins:List (Addr×Obj)) (s:Shared) (σ:St) (H:Hp) (Q:Bool→Hp→Prop),Inv X pins σ H s→t σ H Q→
  wpAny (model X.prog X.w) X.A (forIn ifs true fun c r=>if r=true then do let ok ← isTrue c X.env (eval c X.env); pure (ForInStep.yield ok) else pure (ForInStep.yield r)) (TP X pins σ Q) X.xe s
def tTrue:TT:=fun _ H Q=>Q true H
theorem pif_nil {X:Cx}:PIf X [] tTrue:=fun _ _ _ H _ I h=>wpAny_tests_nil ⟨H,I,h⟩
theorem pif_one {X:Cx} {c:Expr} {t:TT} (h:PT X c t):PIf X [c] t:=fun pins s σ H Q I q=>wpAny_tests_one (h pins s σ H Q I q)
def tCompR (wi : TI) (g : TG) (tt : TT) (te : TE) (own : Nat) (fi : List Nat) (σ : St) (H : Hp) (R : Addr → Hp → Prop) : Prop :=
  wi σ H fun J H1 => ∀ l, H1 l = none → ∃ W : Nat → Nat → St → Hp → Prop, (∃ m, W 0 m (compSt own fi σ) (upd H1 l (.lst []))) ∧ ∀ i m σ' H', W i m σ' H' →
    (J.stop i H' ∧ R l H') ∨ (J.go i H' ∧ ∃ N : St → Hp → Prop, (∀ σ'' H'', N σ'' H'' → ∃ m', m' < m ∧ W (i + 1) m' σ'' H'') ∧ ∀ x H2, J.yld i H' x H2 → g x σ' H2 fun σ2 H3 => tt σ2 H3 fun ok H4 =>
      if ok = true then te σ2 H4 fun y H5 => ∃ xs, H5 l = some (.lst xs) ∧ xs.length < sizeLine ∧ N σ2 (upd H5 l (.lst (xs ++ [y]))) else N σ2 H4)
def tComp (wi:TI) (g:TG) (tt:TT) (te:TE) (own:Nat) (fi:List Nat):TE:=fun σ H Q=>tCompR wi g tt te own fi σ H fun l H'=>Q (.ref l) H'
structure Gone (X:Cx) (pins:List (Addr×Obj)) (H:Hp) (C:Addr):Prop where
 none:H C=none
 loc:C≠X.env.locals
 ab:X.s₀.heap.objs.size≤C
 cell:∀ x c,X.env.cells.lookup x=some c→c≠C
 pin:∀ p∈X.pn++pins,p.1≠C
section
variable {X:Cx} {pins:List (Addr×Obj)} {σ:St} {H:Hp} {s:Shared} {NX N:List Str} {SX scope:Scope} {own:Nat} {fi:List Nat} {tg iter elt:Expr} {ifs:List Expr} {wi:TI} {g:TG} {tt:TT} {te:TE} {pos cpos:Pos} {use:Option (Value→Sem Unit)} {QQ:Value→Shared→Prop} {R:Addr→Hp→Prop}
theorem comp_walk (S:CompScope NX SX scope N own fi) (hN:X.N=NX) (hS:X.env.scope=SX) (hc:X.calm=true) (hi:PI X tg iter wi) (hg:∀ ex s H,PG (X.comp scope N ex s H) tg g) (ht:∀ ex s H,PIf (X.comp scope N ex s H) ifs tt)
  (he:∀ ex s H,PE (X.comp scope N ex s H) elt te) (I:Inv X pins σ H s) (h:tCompR wi g tt te own fi σ H R)
  (post:∀ l H' s' C,Inv X pins σ H' s'→R l H'→(∃ m,s'.heap.Ns C m)→Gone X pins H' C→compPost (model X.prog X.w) X.A X.xe use QQ (.ref l) C (.ok .next) s')
  (hs:∀ x,foldedSetIterable iter X.env x=pure x) :
  wpAny (model X.prog X.w) X.A (comprehension (.ListComp elt [⟨tg,iter,ifs,0⟩] scope pos) scope X.env cpos (newList []) false (eval iter X.env) use) QQ X.xe s:=by
 have hcl:=S.cells hS I.ok
 refine wpAny_comprehension_free (use:=use) rfl hs (closureFor_eq hcl) S.kind S.names ?_
 refine thn (hi pins s σ H _ I h) fun v s1 h1=>thn h1 fun itv s2 h2=>?_
 obtain ⟨it,fp,tn,J,H2,e,I2,T,st2,f2,q⟩:=h2
 subst e
 have hl:H2 s2.heap.objs.size=none:=I2.hok.fresh (Nat.le_refl _)
 obtain ⟨W,⟨m0,w0⟩,turn⟩:=q _ hl
 generalize hL:s2.heap.objs.size=L at w0 turn hl
 refine wpAny_newObj_type ?_
 rw [hL]
 have I3:Inv X pins σ (upd H2 L (.lst [])) { s2 with heap:=s2.heap.push { cls:=.type "list",data:=.seq ([]:List Value).toArray } }:=by
  subst hL
  exact I2.laid (t':=s2.toks) (fun b u e=>Heap.get?_push_of_some _ e) (Nat.le_refl _) ⟨Nat.zero_le _,[],0,.nil,Heap.get?_push_size _ rfl⟩
 generalize hs3:({ s2 with heap:=s2.heap.push { cls:=.type "list",data:=.seq ([]:List Value).toArray } }:Shared)=s3 at I3 ⊢
 have st3:tn 0 s3.heap:=T.keep _ _ _ st2 fun b _ o e=>by subst hs3; exact Heap.get?_push_of_some _ e
 have hlt3:∀ b∈fp,b < s3.heap.objs.size:=fun b hb=>by
  obtain ⟨o,e,_⟩:=T.obj _ _ st3 b hb
  exact Heap.lt_size e
 have hfp3:∀ b∈fp,FpOk X pins (upd H2 L (.lst [])) b:=fun b hb=>by
  obtain ⟨f0,f1⟩:=f2 b hb
  refine ⟨?_,f1⟩
  obtain ⟨o,e,_⟩:=T.obj _ _ st2 b hb
  rw [upd_ne (by rw [← hL]; exact Nat.ne_of_lt (Heap.lt_size e))]; exact f0
 refine wpAny_newFunctionEnv S.nocell (by intro y hy; simp at hy) (fun h₁ hns₁ hsb₁=>?_) S.kind
 have hns₁':h₁.Ns s3.heap.objs.size (fun _=>none):=by
  have:(fun x=>List.lookup x ([]:List (Str×Value)).reverse)=fun _=>(none:Option Value):=by funext x; rfl
  rw [← this]; exact hns₁
 have k1:∀ b o,s3.heap.get? b=some o→h₁.get? b=some o:=fun b o e=>hsb₁.extBut b o (Nat.ne_of_lt (Heap.lt_size e)) (Heap.get?_push_of_some _ e)
 have I4:=Inv.comp (t':=s3.toks+([]:List (Str×Value)).length) S hN hS I3 hfp3 hlt3 hns₁' k1
 have stat:∀ {H':Hp},(∀ b∈fp,H' b=none)→∀ b∈fp,FpOk (X.comp scope N fp s3 (upd H2 L (.lst []))) [] H' b:=fun {H'} hn b hb=>
  ⟨hn b hb,Nat.ne_of_lt (hlt3 b hb),I4.ok.exfs b hb,.inl hb,(I4.ok.exf b hb).2,fun p hp=>absurd (show p∈([]:List (Addr×Obj)) from hp) (by simp)⟩
 generalize hX':X.comp scope N fp s3 (upd H2 L (.lst []))=X' at I4 stat
 have hP:X'.prog=X.prog:=by rw [← hX']; rfl
 have hw:X'.w=X.w:=by rw [← hX']; rfl
 have hK:X'.K=X.K:=by rw [← hX']; rfl
 have hA:X'.A=X.A:=by rw [← hX']; rfl
 have hca:X'.calm=true:=by rw [← hX']; exact hc
 have henv:X'.env=compEnvC scope (closOf X.env scope.names []) s3.heap.objs.size X.env:=by rw [← hX']; rfl
 have hxe:X'.xe=fun _ _=>False:=by rw [← hX']; rfl
 have hg':=hg fp s3 (upd H2 L (.lst []))
 have ht':=ht fp s3 (upd H2 L (.lst []))
 have he':=he fp s3 (upd H2 L (.lst []))
 rw [hX'] at hg' ht' he'
 have loop:∀ s4:Shared,s4={ s3 with heap:=h₁,toks:=s3.toks+([]:List (Str×Value)).length }→
   codeAny (model X.prog X.w) X.A (.compLoop (.ListComp elt [⟨tg,iter,ifs,0⟩] scope pos) 0 (.ref it) (.ref L) (compEnvC scope (closOf X.env scope.names []) s3.heap.objs.size X.env))
    (compPost (model X.prog X.w) X.A X.xe use QQ (.ref L) s3.heap.objs.size) s4:=by
  intro s4 hs4
  refine compLoop_go (fun n s'=>∃ i σ' H',Inv X' [] σ' H' s'∧tn i s'.heap∧(∀ b∈fp,H' b=none)∧W i n σ' H') (F:=X'.xe) (fun e s z=>by rw [hxe] at z; exact z) ?_ m0
   ⟨0,_,_,by rw [hs4]; exact I4,by rw [hs4]; exact T.keep _ _ _ st3 fun b _ o e=>k1 b o e,fun b hb=>(hfp3 b hb).1,w0⟩
  rintro n s5 ⟨i,σ5,H5,I5,st5,fr5,w5⟩
  rcases turn i n σ5 H5 w5 with ⟨stop,qn⟩ | ⟨go,N',hN',step⟩
  ·have hd:=T.done X' hP hw hK hca i [] s5 σ5 H5 X'.xe I5 (stat fr5) st5 stop
   rw [hA] at hd
   refine thn hd fun r s6 ⟨hr,I6⟩=>?_
   subst hr
   -- the end: back to the body around
   have hb:=I6.base
   have e1:X'.fs=frs X.stack:=by rw [← hX']; rfl
   have e2:X'.ex=fp:=by rw [← hX']; rfl
   have e3:X'.H₀=upd H2 L (.lst []):=by rw [← hX']; rfl
   have e4:X'.s₀=s3:=by rw [← hX']; rfl
   rw [e1,e2,e3,e4] at hb
   have hok6:HOk X.prog X.w H5 s6.heap:=by rw [← hP,← hw]; exact I6.hok
   have os6:s6.os=s3.os:=by rw [I6.os,e4]
   have I7:Inv X pins σ H5 s6:=I3.call' os6 hb hok6 I6.bare fun b hb=>⟨(hfp3 b hb).2.2.2.1,(hfp3 b hb).2.1,(hfp3 b hb).2.2.2.2.1,(hfp3 b hb).2.2.2.2.2⟩
   refine post L H5 s6 _ I7 qn ?_ ⟨?_,Nat.ne_of_gt I3.lt,I3.sz,fun x c e z=>?_,fun p hp z=>?_⟩
   ·obtain ⟨m,hn,_⟩:=I6.loc
    rw [henv] at hn
    exact ⟨m,hn⟩
   ·have:=I6.free
    rw [henv] at this
    exact this
   ·obtain ⟨v',q'⟩:=I3.cell x c e
    exact absurd (z▸q'.lt) (Nat.lt_irrefl _)
   ·exact absurd (z▸Heap.lt_size (I3.pin p hp).1) (Nat.lt_irrefl _)
  ·have hd:=T.item X' hP hw hK hca i [] s5 σ5 H5 X'.xe I5 (stat fr5) st5 go
   rw [hA] at hd
   refine thn hd fun r s6 ⟨u,hr,h6⟩=>?_
   subst hr
   refine thn h6 fun _ s7 ⟨x,H7,I7,r7,y7,st7,fr7⟩=>?_
   have I7':=I7.pinned (stat fr7) (T.obj _ _ st7)
   have ha:=hg' _ s7 σ5 H7 x u _ I7' r7 (step x H7 y7)
   rw [hP,hw,hA,henv] at ha
   refine thn ha fun _ s8 ⟨σ8,H8,I8,q8⟩=>?_
   have hb:=ht' _ s8 σ8 H8 _ I8 q8
   rw [hP,hw,hA,henv] at hb
   refine thn hb fun ok s9 ⟨H9,I9,q9⟩=>?_
   have again:∀ {σ':St} {H':Hp} {s':Shared},Inv X' ([]++pinsAt fp s7.heap) σ' H' s'→N' σ' H'→∃ m,m < n∧∃ i σ' H',Inv X' [] σ' H' s'∧tn i s'.heap∧(∀ b∈fp,H' b=none)∧W i m σ' H':=fun {σ' H' s'} I' n'=>by
    obtain ⟨m',hm,w'⟩:=hN' σ' H' n'
    refine ⟨m',hm,i+1,σ',H',I'.unpinned,T.keep _ _ _ st7 fun b hb o e=>(I'.pin (b,o) (List.mem_append_right _ (List.mem_append_right _ (mem_pinsAt hb e)))).1,fun b hb=>?_,w'⟩
    obtain ⟨o,e,d⟩:=T.obj _ _ st7 b hb
    exact (I'.pin (b,o) (List.mem_append_right _ (List.mem_append_right _ (mem_pinsAt hb e)))).2.1
   cases ok with
   | false=>
    rw [if_neg Bool.false_ne_true] at q9 ⊢
    exact again I9 q9
   | true=>
    rw [if_pos rfl] at q9 ⊢
    have hv:=he' _ s9 σ8 H9 _ I9 q9
    rw [hP,hw,hA,henv] at hv
    refine thn hv fun y s10 ⟨yv,H10,I10,r10,xs,hx,hz,q10⟩=>?_
    have hap:=mt_append (X:=X') _ s10 σ8 H10 (V.ref L) [yv] (Value.ref L) [y] (fun v H'=>v=.non∧N' σ8 H') I10 rfl (.cons r10 .nil) ⟨L,xs,yv,rfl,rfl,hx,hz,rfl,q10⟩
    rw [hP,hw,hA] at hap
    refine thn hap fun _ s11 ⟨v,H11,I11,_,_,q11⟩=>?_
    exact again I11 q11
 have e5:({ newEnv scope s3.heap.objs.size X.env.globals (closOf X.env scope.names []) X.env.qual none Value.none (some X.env) builtinsNs with scope:=relabel scope X.env }:Env)=compEnvC scope (closOf X.env scope.names []) s3.heap.objs.size X.env:=rfl
 exact codeAny_compStart_list (loop _ rfl) (T.self X.A 0 _ _ _ (T.keep _ _ _ st3 fun b _ o e=>k1 b o e) (loop _ rfl))
theorem pe_comp (S:CompScope NX SX scope N own fi) (hc:X.calm=true) (hi:PI X tg iter wi) (hg:∀ ex s H,PG (X.comp scope N ex s H) tg g) (ht:∀ ex s H,PIf (X.comp scope N ex s H) ifs tt)
  (he:∀ ex s H,PE (X.comp scope N ex s H) elt te) (hN:X.N=NX:=by rfl) (hS:X.env.scope=SX:=by rfl) (hs:∀ x,foldedSetIterable iter X.env x=pure x:=by intro _; rfl) :
  PE X (.ListComp elt [⟨tg,iter,ifs,0⟩] scope pos) (tComp wi g tt te own fi):=by
 intro pins s σ H Q I h
 rw [eval_ListComp]
 refine comp_walk (use:=none) (R:=fun l H'=>Q (.ref l) H') S hN hS hc hi hg ht he I h (fun l H' s' C I' q' hn G=>?_) hs
 obtain ⟨m,hn⟩:=hn
 exact ⟨m,hn,fun h' hs'=>⟨.ref l,H',I'.turned (t':=s'.toks) (fun b o hb e=>(hs'.2 b hb).trans e) G.none G.loc (.inr G.ab) G.cell G.pin,rfl,q'⟩⟩
def tSetComp (i:Nat) (wi:TI) (g:TG) (tt:TT) (te:TE) (own:Nat) (fi:List Nat):TS:=fun D σ H=>tCompR wi g tt te own fi σ H fun l H'=>D.nx (σ.set i (some (.ref l))) H'
theorem ps_setcomp {i:Nat} {y:Str} {py spos:Pos} (hnd:X.N.Nodup) (hy:X.N[i]? = some y) (hl:X.env.scope.names.lookup y=some .local) (S:CompScope NX SX scope N own fi) (hc:X.calm=true) (hi:PI X tg iter wi)
  (hg:∀ ex s H,PG (X.comp scope N ex s H) tg g) (ht:∀ ex s H,PIf (X.comp scope N ex s H) ifs tt)
  (he:∀ ex s H,PE (X.comp scope N ex s H) elt te) (hN:X.N=NX:=by rfl) (hS:X.env.scope=SX:=by rfl) (hs:∀ x,foldedSetIterable iter X.env x=pure x:=by intro _; rfl)
  (hsw:swapsWith (.ListComp elt [⟨tg,iter,ifs,0⟩] scope pos) (some (.Name y py)) spos.line X.env=pure true:=by rfl) :
  PS X (.Assign [.Name y py] (.ListComp elt [⟨tg,iter,ifs,0⟩] scope pos) spos) (tSetComp i wi g tt te own fi):=by
 intro pins s σ H D I h
 rw [exec_Assign_Name_used _ _ _ _ hsw]
 refine wpAny_bind (wpAny_standAt (wpAny_bind ?_))
 show wpAny _ X.A (do let _ ← comprehension (.ListComp elt [⟨tg,iter,ifs,0⟩] scope pos) scope X.env _ (newList []) false (eval iter X.env) (some (assign (.Name y py) X.env))) _ _ s
 refine wpAny_bind (wpAny_mono (comp_walk (use:=some (assign (.Name y py) X.env)) (QQ:=fun _ s'=>SP X pins D .next s') (R:=fun l H'=>D.nx (σ.set i (some (.ref l))) H') S hN hS hc hi hg ht he I h (fun l H' s' C I' q' hn G=>?_) hs)
  (fun _ s' hq=>wpAny_pure (wpAny_pure hq)) fun _ _ e=>e)
 obtain ⟨m,hn⟩:=hn
 show wpAny _ X.A (assign (.Name y py) X.env (.ref l)) _ _ _
 refine wpAny_assign_Name (store_ok2 I' hnd hy (.inl hl) (v:=.ref l) rfl (fun s'' I'' hsb=>?_) (.inr hl))
 obtain ⟨a,hsb,ha⟩:=hsb
 have hCa:C≠a:=by
  rcases ha with z | z
  ·rw [z]; exact G.loc
  ·exact Ne.symm (G.cell y a z)
 exact ⟨m,hn.sameBut hsb hCa,fun h' hs'=>⟨_,H',I''.turned (t':=s''.toks) (fun b o hb e=>(hs'.2 b hb).trans e) G.none G.loc (.inr G.ab) G.cell G.pin,q'⟩⟩
end
end L2
namespace L2
open PySem PySem.Spec PyProof.Rows
def Its (x:Str):It:=⟨fun i _=>i < x.cps.size,fun i H v H'=>H'=H∧∃ c,x.cps[i]? = some c∧v=.str ⟨#[c]⟩,fun i _=>x.cps.size≤i⟩
theorem turn_str {P:Program} {w:World} {K:W.Frag} {tg:Expr} (it:Addr) (x:Str) (t:Tok) (ty:String) (hty:ty="str_ascii_iterator"∨ty="str_iterator"):Turn P w K tg (Its x) [it] it (fun i h=>i≤x.cps.size∧h.IsStrIter it ty x t i) where
 mem:=by simp
 obj:=fun i h st b hb=>by
  have e:b=it:=by simpa using hb
  subst e
  obtain ⟨_,o,e,c,d⟩:=st
  exact ⟨o,e,fun v z=>by rw [d] at z; cases z⟩
 keep:=fun i h h' st k=>by
  obtain ⟨hi,o,e,r⟩:=st
  exact ⟨hi,o,k it (by simp) o e,r⟩
 item:=by
  intro X hP hw hK hc i pins s σ H E I hf st hg
  subst hP hw hK
  obtain ⟨f0,f1,f2,f3,f4,f5⟩:=hf it (by simp)
  have hg':i < x.cps.size:=hg
  have key:∀ h':Heap,h'.IsStrIter it ty x t (i+1)→Heap.SameBut it s.heap h'→(fun r s1=>∃ u,r=some u∧
   wpAny (model X.prog X.w) X.A (letOwnedTupleGo tg (.ref it) u) (fun _ s2=>∃ y H',Inv X pins σ H' s2∧RelV y u∧(Its x).yld i H y H'∧(i+1≤x.cps.size∧s2.heap.IsStrIter it ty x t (i+1))∧∀ b∈[it],H' b=none) E s1)
    (some (.str ⟨#[x.cps[i]]⟩ s.toks)) { s with heap:=h',toks:=s.toks+1 }:=fun h' st' sb=>by
   have I1:Inv X pins σ H { s with heap:=h',toks:=s.toks+1 }:=I.turned (fun b o hb e=>(sb.2 b hb).trans e) f0 f1 f3 f4 f5
   obtain ⟨o,e,c,d⟩:=id st'
   refine ⟨_,rfl,go_of (s:={ s with heap:=h',toks:=s.toks+1 }) e c d ?_ ⟨.str ⟨#[x.cps[i]]⟩,H,I1,⟨_,rfl⟩,⟨rfl,_,by simp [hg'],rfl⟩,⟨hg',st'⟩,fun b hb=>(hf b hb).1⟩⟩
   rcases hty with rfl | rfl <;> decide
  rcases hty with rfl | rfl
  ·exact wpAny_pyNext_ascii_item st.2 (c:=x.cps[i]) (by simp [hg']) fun h' hit' hs'=>key h' hit' hs'
  ·exact wpAny_pyNext_wide_item st.2 (c:=x.cps[i]) (by simp [hg']) fun h' hit' hs'=>key h' hit' hs'
 done:=by
  intro X hP hw hK hc i pins s σ H E I hf st hg
  subst hP hw hK
  obtain ⟨f0,f1,f2,f3,f4,f5⟩:=hf it (by simp)
  have hg':x.cps.size≤i:=hg
  rcases hty with rfl | rfl
  ·exact wpAny_pyNext_ascii_end (I.ok.hd hc) st.2 (by simp [hg']) fun h' eb=>⟨rfl,I.turned (t':=s.toks) (fun b o hb e=>eb b o hb e) f0 f1 f3 f4 f5⟩
  ·exact wpAny_pyNext_wide_end (I.ok.hd hc) st.2 (by simp [hg']) fun h' eb=>⟨rfl,I.turned (t':=s.toks) (fun b o hb e=>eb b o hb e) f0 f1 f3 f4 f5⟩
 self:=fun _ _ _ _ _ st h=>by
  rcases hty with rfl | rfl
  ·exact wpAny_pyIter_striter_ascii st.2 h
  ·exact wpAny_pyIter_striter_wide st.2 h
def iStr (tl:TE):TI:=fun σ H R=>tl σ H fun x H1=>∃ z,x=.str z∧R (Its z) H1
theorem pi_str {X:Cx} {tg l:Expr} {tl:TE} (hl:PE X l tl):PI X tg l (iStr tl):=by
 intro pins s σ H R I h
 refine thn (hl pins s σ H _ I h) fun v s1 ⟨x,H1,I1,r1,q1⟩=>?_
 obtain ⟨z,e,q⟩:=q1
 subst e
 obtain ⟨t,rfl⟩:=r1
 have key:∀ (o:Obj) (ty:String),(ty="str_ascii_iterator"∨ty="str_iterator")→(s1.heap.push o).IsStrIter s1.heap.objs.size ty z t 0→PIE X pins σ tg R (.ref s1.heap.objs.size) { s1 with heap:=s1.heap.push o }:=fun o ty hty st=>by
  refine ⟨s1.heap.objs.size,[s1.heap.objs.size],_,_,H1,rfl,I1.kept (t':=s1.toks) fun b o e=>Heap.get?_push_of_some _ e,turn_str _ z t ty hty,⟨Nat.zero_le _,st⟩,fun b hb=>?_,q⟩
  have e:b=s1.heap.objs.size:=by simpa using hb
  subst e
  exact I1.fpOk (Nat.le_refl _) (I1.hok.fresh (Nat.le_refl _))
 cases ha:z.cps.all (·< 128)
 ·exact wpAny_pyIter_wide ha (key _ _ (.inr rfl) ⟨_,Heap.get?_push_size _ rfl,rfl,rfl⟩)
 ·exact wpAny_pyIter_ascii ha (key _ _ (.inl rfl) ⟨_,Heap.get?_push_size _ rfl,rfl,rfl⟩)
theorem all_range {bs:List Bool} {n:Nat} (h:n=bs.length):(List.range n).all (fun i=>bs.getD i false)=bs.all id:=by
 subst h
 rw [Bool.eq_iff_iff,List.all_eq_true,List.all_eq_true]
 constructor
 ·intro h b hb
  obtain ⟨i,hi,e⟩:=List.mem_iff_getElem.mp hb
  have:=h i (List.mem_range.mpr hi)
  rw [List.getD_eq_getElem?_getD,List.getElem?_eq_getElem hi,Option.getD_some,e] at this
  exact this
 ·intro h i hi
  have hi':=List.mem_range.mp hi
  rw [List.getD_eq_getElem?_getD,List.getElem?_eq_getElem hi',Option.getD_some]
  exact h _ (List.getElem_mem hi')
section
variable {X:Cx}
theorem call_all (hc:X.calm=true):CallR X (.builtin "all") (fun xs H Q=>∃ (p:Addr) (bs:List Bool),xs=[.ref p]∧SqL X.K H p (bs.map V.bl)∧Q (.bl (bs.all id)) H):=by
 intro pins s σ H xs us Q I r h
 obtain ⟨p,bs,rfl,hp,q⟩:=h
 obtain ⟨u,rfl,ru⟩:=Vals.one r
 cases ru
 obtain ⟨its,rv,pl,hz⟩:=I.list hp
 have hlen:=rv.length
 rw [List.length_map] at hlen
 have hne:p≠s.heap.objs.size:=by
  obtain ⟨o,n,e,_⟩:=pl
  exact Nat.ne_of_lt (Heap.lt_size e)
 refine call_all_walk (wpAny_pyIter_list pl.isList ?_)
 refine ⟨s.heap.objs.size,_,_,its.toArray.size,_,_,fun i=>bs.getD i false,rfl,Walks.list (A:=X.A.in1) (I.ok.hd hc) s.heap.objs.size p hne its.toArray,⟨⟨_,Heap.get?_push_size _ rfl,rfl,rfl⟩,?_⟩,?_,fun h' tk hk=>?_⟩
 ·exact pl.isList.at fun o e=>Heap.get?_push_of_some _ e
 ·intro i v s' Q' E' hv hq
  have hv':its[i]? = some v:=by simpa using hv
  have hi:i < its.length:=(List.getElem?_eq_some_iff.mp hv').1
  obtain ⟨u',hu',ru'⟩:=rv.get (i:=i) (x:=.bl (bs.getD i false)) (by
   rw [List.getElem?_map,List.getElem?_eq_getElem (by omega),List.getD_eq_getElem?_getD,List.getElem?_eq_getElem (by omega)]; rfl)
  rw [hv'] at hu'; cases hu'
  cases ru'
  exact wpAny_truthy_bool hq
 ·rw [all_range (by simp; omega)]
  exact ⟨.bl _,H,I.kept (h':=h') (t':=tk) fun b o e=>hk b o (by
   have:b≠s.heap.objs.size:=Nat.ne_of_lt (Heap.lt_size e)
   simpa using this) (Heap.get?_push_of_some _ e),rfl,q⟩
theorem call_isinst:CallR X (.builtin "isinstance") (fun xs H Q=>∃ x n t b,xs=[x,.ty n]∧TyOf X.K H x t∧W.kitOne X.K t (.type n)=some b∧Q (.bl b) H):=by
 intro pins s σ H xs us Q I r h
 obtain ⟨x,n,t,b,rfl,ty,e,q⟩:=h
 obtain ⟨u,c,rfl,ru,rc⟩:=Vals.two r
 cases rc
 exact isinst_ok I ru ty e fun tk=>⟨.bl b,H,I.tok tk,rfl,q⟩
theorem strs_of:∀ {zs:List Str} {us:List Value},Vals (zs.map V.str) us→StrsAre us zs
 | [],_,.nil=>.nil
 | z :: zs,_,.cons r t=>by
  obtain ⟨tk,rfl⟩:=r
  exact .cons _ _ (strs_of t)
def rJoin (K:W.Frag):V→List V→Hp→VK→Prop:=fun x vs H Q=>∃ z p ys,x=.str z∧vs=[.ref p]∧SqL K H p (ys.map V.str)∧(ys.map (·.length)).sum+ys.length*z.length≤16777216∧Q (.str (Txt.join z ys)) H
theorem mt_join:MtR X "str.join" (rJoin X.K):=by
 intro pins s σ H x xs v us Q I rx rs h
 obtain ⟨z,p,ys,rfl,rfl,hp,hz,q⟩:=h
 obtain ⟨t,rfl⟩:=rx
 obtain ⟨u,rfl,ru⟩:=Vals.one rs
 cases ru
 obtain ⟨its,rv,pl,_⟩:=I.list hp
 exact join_list pl.isList (by simpa using strs_of rv) hz fun t' k=>⟨.str _,H,I.tok k,⟨t',rfl⟩,q⟩
theorem op_fdivB:OpR X (binaryOp .FloorDiv) (rI (fun _ j=>0 < j∧j < 2 ^ 200) fun i j=>.int (i / j)):=opI fun i j _ _ _ _ _ hc q=>by
 have h1:(0:Int) < j:=hc.1
 have h2:j < 2 ^ 200:=hc.2
 refine floordiv_int (by omega) (by rw [Int.fdiv_eq_ediv_of_nonneg i (by omega)]; exact q) (.inl (PyProof.noPylong_of_log2 ?_))
 have h3:j.natAbs < 2 ^ 200:=by
  have e:((2:Int) ^ 200)=(((2:Nat) ^ 200:Nat):Int):=by norm_cast
  rw [e] at h2
  omega
 have h4:j.natAbs≠0:=by omega
 exact Nat.lt_trans ((Nat.log2_lt h4).mpr h3) (by decide)
end
section
variable {K:W.Frag} {g:TG} {tt:TT} {te:TE} {σ0:St} {H1:Hp} {l:Addr} {R:Hp→Prop}
end
example (K:W.Frag):W.kitOne K (.type "bool") (.type "int")=some true:=by rfl
example (K:W.Frag):W.kitOne K (.type "dict") (.type "int")=some false:=by rfl
end L2
namespace L2
open PySem PySem.Spec PyProof.Rows
section
variable {X:Cx}
def rAddS:R2:=fun x y H Q=>∃ i j,x=.str i∧y=.str j∧i.length+j.length≤sizeLine∧Q (.str (i++j)) H
def rAddG (K:W.Frag):R2:=fun x y H Q=>(rI0 fun i j=>.int (i+j)) x y H Q∨rAddS x y H Q∨rCat x y H Q∨rCatT K x y H Q
theorem op_addG:OpR X (binaryOp .Add) (rAddG X.K):=op_add.or (op_add_str.or (op_cat.or op_catT))
def rMulG:R2:=fun x y H Q=>(rI CMul fun i j=>.int (i*j)) x y H Q∨rRep x y H Q
theorem op_mulG:OpR X (binaryOp .Mult) rMulG:=op_mul.or op_rep
def rInS:R2:=fun x y H Q=>∃ i j,x=.str i∧y=.str j∧Q (.bl (!(Builtin.Str.occurrences j i 0 j.length 1).isEmpty)) H
def rNotInS:R2:=fun x y H Q=>∃ i j,x=.str i∧y=.str j∧Q (.bl (!(!(Builtin.Str.occurrences j i 0 j.length 1).isEmpty))) H
theorem PI.or {tg l:Expr} {wi wi':TI} (h:PI X tg l wi) (h':PI X tg l wi'):PI X tg l (fun σ H R=>wi σ H R∨wi' σ H R):=by
 intro pins s σ H R I q
 rcases q with q | q
 ·exact h pins s σ H R I q
 ·exact h' pins s σ H R I q
def iSeq (K:W.Frag) (tl:TE):TI:=fun σ H R=>iList K tl σ H R∨iTup K tl σ H R∨iStr tl σ H R
theorem pi_seq {tg l:Expr} {tl:TE} (hl:PE X l tl):PI X tg l (iSeq X.K tl):=(pi_list hl).or ((pi_tup hl).or (pi_str hl))
def rLenG (K:W.Frag):List V→Hp→VK→Prop:=fun xs H Q=>∃ x n,xs=[x]∧LenV K x H n∧Q (.int n) H
theorem call_lenG:CallR X (.builtin "len") (rLenG X.K):=call_len
end
section
variable {X:Cx} {K:W.Frag}
theorem op_addK (h:X.K=K):OpR X (binaryOp .Add) (rAddG K):=h▸op_addG
theorem ix_seqK (h:X.K=K):IxR X (rIx K):=h▸ix_seq
theorem pi_seqK {tg l:Expr} {tl:TE} (h:X.K=K) (hl:PE X l tl):PI X tg l (iSeq K tl):=h▸pi_seq hl
theorem call_lenK (h:X.K=K):CallR X (.builtin "len") (rLenG K):=h▸call_lenG
def rIsinst (K:W.Frag):List V→Hp→VK→Prop:=fun xs H Q=>∃ x n t b,xs=[x,.ty n]∧TyOf K H x t∧W.kitOne K t (.type n)=some b∧Q (.bl b) H
theorem call_isinstK (h:X.K=K):CallR X (.builtin "isinstance") (rIsinst K):=h▸call_isinst
def rAll (K:W.Frag):List V→Hp→VK→Prop:=fun xs H Q=>∃ (p:Addr) (bs:List Bool),xs=[.ref p]∧SqL K H p (bs.map V.bl)∧Q (.bl (bs.all id)) H
theorem call_allK (h:X.K=K) (hc:X.calm=true):CallR X (.builtin "all") (rAll K):=h▸call_all hc
theorem mt_joinK (h:X.K=K):MtR X "str.join" (rJoin K):=h▸mt_join
def rListOf (K:W.Frag):List V→Hp→VK→Prop:=fun xs H Q=>∃ p ys,xs=[.ref p]∧(SqL K H p ys∨SqT K H p ys)∧∀ l,H l=none→Q (.ref l) (upd H l (.lst ys))
theorem call_listK (h:X.K=K):CallR X (.type "list") (rListOf K):=h▸call_list_of
def rTupOf (K:W.Frag):List V→Hp→VK→Prop:=fun xs H Q=>∃ p ys,xs=[.ref p]∧((SqL K H p ys∧∀ l,H l=none→Q (.ref l) (upd H l (.tup ys)))∨(SqT K H p ys∧Q (.ref p) H))
theorem call_tupleK (h:X.K=K):CallR X (.type "tuple") (rTupOf K):=h▸call_tuple_of
variable {T id:String} {name:Str} {r:V→List V→Hp→VK→Prop} {o e:Expr} {es:List Expr} {to:TE} {t:TA} {apos cpos pos:Pos}
theorem pe_bm0K (h:X.K=K) (pa:PlainAttrs T) (slot:Slot T name id) (hty:typeOf (.builtin id)=pure (.type "method_descriptor")) (hm:MtR X id r) (ho:PE X o to)
  (hbase:attributeBase o name X.env (eval o X.env)=eval o X.env:=by rfl) (hline:(apos.endLine==cpos.line)=true:=by rfl):PE X (.Call (.Attribute o name apos) [] [] cpos) (tBM0 K T r to):=h▸pe_bm0 pa slot hty hm ho hbase hline
theorem pe_bmK (h : X.K = K) (pa : PlainAttrs T) (slot : Slot T name id) (hty : typeOf (.builtin id) = pure (.type "method_descriptor")) (hm : MtR X id r) (ho : PE X o to) (ha : PA X (e :: es) t)
    (hbase : attributeBase o name X.env (eval o X.env) = eval o X.env := by rfl)
    (hfew : ((backTo cpos (starEach (e :: es) X.env)).all (fun x => !x.1) && (backToKw cpos (keywordEach [] X.env)).all (fun x => x.1.isSome)
      && decide ((e :: es).length + ([] : List Keyword).length + (if ([] : List Keyword).isEmpty then 0 else 1) < 30)) = true := by rfl)
    (hline : (apos.endLine == cpos.line) = true := by rfl) (hs : starEach (e :: es) X.env = (false, eval e X.env) :: starEach es X.env := by rfl) (hplain : (backTo cpos (starEach es X.env)).any (·.1) = false := by rfl) :
    PE X (.Call (.Attribute o name apos) (e :: es) [] cpos) (tBM K T r to t) := h ▸ pe_bm pa slot hty hm ho ha hbase hfew hline hs hplain
theorem pg_tupK {es:List Expr} {k:Nat} {t:TGs} {n:Nat} (h:X.K=K) (hc:X.calm=true) (hp:PGs X es t)
  (hn:(assignEach es X.env).length=n:=by rfl) (hst:(assignEach es X.env).findIdx? (·.1)=none:=by rfl):PG X (.Tuple es k pos) (gTup K n t):=h▸pg_tup hc hp hn hst
theorem pe_fldK {f:Str} (h:X.K=K) (he:PE X e to) (hb:attributeBase e f X.env (eval e X.env)=eval e X.env):PE X (.Attribute e f pos) (tFld K to f):=h▸pe_fld he hb
theorem ps_fldK {f:Str} {value:Expr} {tv:TE} {pos':Pos} (h:X.K=K) (ha:PE X o to) (hv:PE X value tv) (hs:swapsWith value (some (.Attribute o f pos')) pos.line X.env=pure false):PS X (.Assign [.Attribute o f pos'] value pos) (sFld K to tv f):=h▸ps_fld ha hv hs
def GC (mg:Str→Option Value) (x:Str) (v:V):Prop:=∃ u,mg x=some u∧RelV v u
theorem pe_gc {x:Str} {v:V} (hg:Gl X x) (h:GC X.mg x v) (hd:(x==("__debug__":Str))=false:=by decide):PE X (.Name x pos) (tC v):=by
 obtain ⟨u,h1,h2⟩:=h
 exact pe_glob hg h1 h2 hd
end
section
variable {K:W.Frag} {σ:St} {H:Hp} {Q:VK} {v x y:V} {i j:Int} {ta tb:TE} {D:Ends}
theorem len_str {z:Str} (h:z.length≤sizeLine):LenV K (.str z) H z.length:=⟨h,rfl⟩
end
end L2
namespace L2
open PySem PySem.Spec PyProof.Rows
mutual
inductive DAt (K:W.Frag) (H:Hp):V→PyData→Prop
 | non:DAt K H .non .none
 | bl (b:Bool):DAt K H (.bl b) (.bool b)
 | int (i:Int):DAt K H (.int i) (.int i)
 | str (x:Str):DAt K H (.str x) (.str x)
 | lst {a:Addr} {xs:List V} {ds:List PyData} (h:SqL K H a xs) (r:DAts K H xs ds):DAt K H (.ref a) (.list ds)
 | tup {a:Addr} {xs:List V} {ds:List PyData} (h:SqT K H a xs) (r:DAts K H xs ds):DAt K H (.ref a) (.tuple ds)
inductive DAts (K:W.Frag) (H:Hp):List V→List PyData→Prop
 | nil:DAts K H [] []
 | cons {x:V} {d:PyData} {xs:List V} {ds:List PyData} (h:DAt K H x d) (r:DAts K H xs ds):DAts K H (x :: xs) (d :: ds)
end
section
variable {X:Cx} {pins:List (Addr×Obj)} {σ:St} {H:Hp} {s:Shared}
mutual
theorem Inv.reads (I:Inv X pins σ H s):∀ {x:V} {d:PyData} {u:Value},DAt X.K H x d→RelV x u→∃ as,Reads s.heap u d as
 | _,_,_,.non,r=>by cases r; exact ⟨_,.none⟩
 | _,_,_,.bl b,r=>by cases r; exact ⟨_,.bool b⟩
 | _,_,_,.int i,r=>by obtain ⟨t,rfl⟩:=r; exact ⟨_,.int i t⟩
 | _,_,_,.str x,r=>by obtain ⟨t,rfl⟩:=r; exact ⟨_,.str x t⟩
 | _,_,_,.lst h q,r=>by
  cases r
  obtain ⟨its,rv,⟨o,n,e,c,_,d⟩,_⟩:=I.list h
  obtain ⟨as,ra⟩:=Inv.readsAll I q rv
  exact ⟨_,.list e c d (by simpa using ra)⟩
 | _,_,_,.tup h q,r=>by
  cases r
  obtain ⟨its,rv,⟨o,e,c,n,d⟩,_⟩:=I.tuple h
  obtain ⟨as,ra⟩:=Inv.readsAll I q rv
  exact ⟨_,.tuple e c d (by simpa using ra)⟩
theorem Inv.readsAll (I:Inv X pins σ H s):∀ {xs:List V} {ds:List PyData} {us:List Value},DAts X.K H xs ds→Vals xs us→∃ as,ReadsAll s.heap us ds as
 | _,_,_,.nil,.nil=>⟨_,.nil⟩
 | _,_,_,.cons h r,.cons v t=>by
  obtain ⟨as,ra⟩:=Inv.reads I h v
  obtain ⟨bs,rb⟩:=Inv.readsAll I r t
  exact ⟨_,.cons ra rb⟩
end
end
theorem Room.c64 {k:Nat} {A:Around} (r:Room k A):A.units+65 < cLine:=by have:=r.un; omega
def rEqD (K:W.Frag):R2:=fun x y H Q=>∃ da db,DAt K H x da∧DAt K H y db∧SeqAt.shaped da=true∧SeqAt.shaped db=true∧Q (.bl (PyData.eqv da db)) H
def rNeD (K:W.Frag):R2:=fun x y H Q=>∃ da db,DAt K H x da∧DAt K H y db∧SeqAt.shaped da=true∧SeqAt.shaped db=true∧Q (.bl (!PyData.eqv da db)) H
def rInD (K:W.Frag):R2:=fun x y H Q=>∃ ds d,(DAt K H y (.list ds)∨DAt K H y (.tuple ds))∧DAt K H x d∧SeqAt.shaped (.list ds)=true∧SeqAt.shaped d=true∧Q (.bl (ds.any fun e=>PyData.eqv e d)) H
def rNotInD (K:W.Frag):R2:=fun x y H Q=>∃ ds d,(DAt K H y (.list ds)∨DAt K H y (.tuple ds))∧DAt K H x d∧SeqAt.shaped (.list ds)=true∧SeqAt.shaped d=true∧Q (.bl (!(ds.any fun e=>PyData.eqv e d))) H
section
variable {X:Cx} {K:W.Frag}
theorem op_eqD (hK:X.K=K) (hu:X.A.units+65 < cLine):OpR X (compareOp .Eq) (rEqD K):=by
 subst hK
 intro pins s σ H x y v u Q I rx ry h
 obtain ⟨da,db,ha,hb,sa,sb,q⟩:=h
 obtain ⟨as,ra⟩:=I.reads ha rx
 obtain ⟨bs,rb⟩:=I.reads hb ry
 exact eq_dataH ra rb sa sb (by omega) ⟨.bl _,H,I,rfl,q⟩
theorem op_neD (hK:X.K=K) (hu:X.A.units+65 < cLine):OpR X (compareOp .NotEq) (rNeD K):=by
 subst hK
 intro pins s σ H x y v u Q I rx ry h
 obtain ⟨da,db,ha,hb,sa,sb,q⟩:=h
 obtain ⟨as,ra⟩:=I.reads ha rx
 obtain ⟨bs,rb⟩:=I.reads hb ry
 exact ne_dataH ra rb sa sb (by omega) ⟨.bl _,H,I,rfl,q⟩
theorem op_inD (hK:X.K=K) (hu:X.A.units+65 < cLine):OpR X (compareOp .In) (rInD K):=by
 subst hK
 intro pins s σ H x y v u Q I rx ry h
 obtain ⟨ds,d,hc,hd,sa,sb,q⟩:=h
 obtain ⟨bs,rb⟩:=I.reads hd rx
 rcases hc with hc | hc
 ·obtain ⟨as,ra⟩:=I.reads hc ry
  exact SeqAt.in_list_reads ra rb (SeqAt.canLay_of_shaped sa) (SeqAt.canLay_of_shaped sb) (room_in_shaped sb hu) ⟨.bl _,H,I,rfl,q⟩
 ·obtain ⟨as,ra⟩:=I.reads hc ry
  exact SeqAt.in_tuple_reads ra rb (by have:=SeqAt.canLay_of_shaped sa; simpa [PyData.canLay0] using this) (SeqAt.canLay_of_shaped sb) (room_in_shaped sb hu) ⟨.bl _,H,I,rfl,q⟩
theorem op_notInD (hK:X.K=K) (hu:X.A.units+65 < cLine):OpR X (compareOp .NotIn) (rNotInD K):=by
 subst hK
 intro pins s σ H x y v u Q I rx ry h
 obtain ⟨ds,d,hc,hd,sa,sb,q⟩:=h
 obtain ⟨bs,rb⟩:=I.reads hd rx
 rcases hc with hc | hc
 ·obtain ⟨as,ra⟩:=I.reads hc ry
  exact SeqAt.notIn_list_reads ra rb (SeqAt.canLay_of_shaped sa) (SeqAt.canLay_of_shaped sb) (room_in_shaped sb hu) ⟨.bl _,H,I,rfl,q⟩
 ·obtain ⟨as,ra⟩:=I.reads hc ry
  exact SeqAt.notIn_tuple_reads ra rb (by have:=SeqAt.canLay_of_shaped sa; simpa [PyData.canLay0] using this) (SeqAt.canLay_of_shaped sb) (room_in_shaped sb hu) ⟨.bl _,H,I,rfl,q⟩
def rSlS:V→Option Int→Option Int→Hp→VK→Prop:=fun x lo hi H Q=>∃ z,x=.str z∧z.length≤sizeLine∧Q (.str (Txt.slice z lo hi)) H
theorem sl_str:SlR X rSlS:=by
 intro pins s σ H x v vl vu lo hi sl Q I rx hs pl pu h
 obtain ⟨z,rfl,hz,q⟩:=h
 obtain ⟨t,rfl⟩:=rx
 refine ⟨"str",_,F.slot_str_getitem.lookup,typeIs_str _ _ _,?_⟩
 have fin:∀ t' k,EP X pins σ Q (.str (Txt.slice z lo hi) t') { s with toks:=k }:=fun t' k=>⟨.str _,H,I.tok k,⟨t',rfl⟩,q⟩
 cases pl with
 | none=>cases pu with
  | none=>exact wpAny_getItem_str_slice (l:=none) (u:=none) (st:=none) hs rfl (post_val_or_str ⟨Nat.le_trans (Txt.slice_le z _ _) hz,fin⟩)
  | int j uj=>exact wpAny_getItem_str_slice (l:=none) (u:=some (j,uj)) (st:=none) hs rfl (post_val_or_str ⟨Nat.le_trans (Txt.slice_le z _ _) hz,fin⟩)
 | int i ui=>cases pu with
  | none=>exact wpAny_getItem_str_slice (l:=some (i,ui)) (u:=none) (st:=none) hs rfl (post_val_or_str ⟨Nat.le_trans (Txt.slice_le z _ _) hz,fin⟩)
  | int j uj=>exact wpAny_getItem_str_slice (l:=some (i,ui)) (u:=some (j,uj)) (st:=none) hs rfl (post_val_or_str ⟨Nat.le_trans (Txt.slice_le z _ _) hz,fin⟩)
def gLst (K:W.Frag) (n:Nat) (t:TGs):TG:=fun v σ H Q=>∃ a xs,v=.ref a∧SqL K H a xs∧xs.length=n∧t xs σ H Q
theorem draw_list {prog:Program} {w:World} {A:Around} {E:Value→Shared→Prop} {it t:Addr} {items:Array Value} (hne:t≠it):∀ (n i:Nat) (s:Shared) (Q:List Value→Shared→Prop),s.heap.IsListIter it t i→s.heap.IsList t items→i+n≤items.size→
  (∀ h',h'.IsListIter it t (i+n)→Heap.SameBut it s.heap h'→Q ((items.toList.drop i).take n) { s with heap:=h' })→wpAny (model prog w) A (draw (.ref it) n) Q E s
 | 0,i,s,Q,hit,_,_,hQ=>by
  show wpAny _ _ (pure []) Q E s
  exact wpAny_pure (by simpa using hQ s.heap hit (Heap.SameBut.refl ..))
 | n+1,i,s,Q,hit,ht,hle,hQ=>by
  have hlt:i < items.size:=by omega
  show wpAny _ _ (pyNext (.ref it) >>= _) Q E s
  refine wpAny_bind (wpAny_pyNext_list_item hit ht (x:=items[i]) (by simp [hlt]) fun h₁ hit₁ hs₁=>?_)
  refine wpAny_bind (wpAny_holding (draw_list hne n (i+1) _ _ hit₁ (ht.extBut hs₁.extBut hne) (by omega) fun h₂ hit₂ hs₂=>wpAny_pure ?_))
  have hd:items.toList.drop i=items[i] :: items.toList.drop (i+1):=by simp [List.drop_eq_getElem_cons,hlt]
  have q:=hQ h₂ (by rw [show i+(n+1)=i+1+n by omega]; exact hit₂) (hs₁.trans hs₂)
  rw [hd,List.take_succ_cons] at q
  exact q
theorem unpackItems_list {prog:Program} {w:World} {A:Around} {E:Value→Shared→Prop} {s:Shared} {t:Addr} {items:Array Value} {Q:List Value→Shared→Prop} (hh:A.handled=none) (ht:s.heap.IsList t items)
  (hQ:∀ h',Heap.ExtBut s.heap.objs.size s.heap h'→Q items.toList { s with heap:=h' }):wpAny (model prog w) A (unpackItems (.ref t) items.size none) Q E s:=by
 have hlt:t≠s.heap.objs.size:=by obtain ⟨o,ho,_⟩:=ht; exact Nat.ne_of_lt (Heap.lt_size ho)
 unfold unpackItems
 refine wpAny_bind ?_
 unfold notIterableAtAll
 refine wpAny_bind (wpAny_specialOf ht.typeIs slot_list_iter.lookup ?_)
 refine wpAny_pure ?_
 simp only [Bool.false_eq_true,if_false]
 refine wpAny_bind (wpAny_holding (wpAny_pyIter_list ht ?_))
 refine wpAny_bind (wpAny_holding (draw_list hlt items.size 0 _ _ ⟨_,Heap.get?_push_size _ rfl,rfl,rfl⟩ (ht.at fun o e=>Heap.get?_push_of_some _ e) (by omega) fun h₁ hit₁ hs₁=>?_))
 have hall:List.take items.size (List.drop 0 items.toList)=items.toList:=by
  rw [List.drop_zero]; exact List.take_of_length_le (by simp)
 rw [hall]
 rw [if_neg (by simp)]
 have ht₁:h₁.IsList t items:=(ht.at fun o e=>Heap.get?_push_of_some _ e).extBut hs₁.extBut hlt
 refine wpAny_bind (wpAny_holding (wpAny_pyNext_list_end hh hit₁ ht₁ (by simp) fun h₂ he₂=>?_))
 simp only [Option.isSome_none,Bool.false_eq_true,if_false]
 exact wpAny_pure (hQ h₂ fun b o hb e=>he₂ b o hb (hs₁.extBut b o hb (Heap.get?_push_of_some _ e)))
theorem pg_lst {es:List Expr} {k:Nat} {t:TGs} {n:Nat} {pos:Pos} (hK:X.K=K) (hc:X.calm=true) (h:PGs X es t)
  (hn:(assignEach es X.env).length=n:=by rfl) (hst:(assignEach es X.env).findIdx? (·.1)=none:=by rfl):PG X (.Tuple es k pos) (gLst K n t):=by
 subst hK
 intro pins s σ H v u Q I r hw
 obtain ⟨a,xs,e1,hq,hl,hw⟩:=hw
 subst e1
 cases r
 obtain ⟨its,rv,pl,hz⟩:=I.list hq
 have hsz:(assignEach es X.env).length=its.toArray.size:=by simp [hn,← hl,rv.length]
 rw [assign_Tuple]
 refine wpAny_bind (wpAny_standAt ?_)
 unfold unpack
 rw [hsz,hst]
 refine wpAny_bind (wpAny_holding (unpackItems_list (I.ok.hd hc) pl.isList fun h' hx=>?_))
 have I1:Inv X pins σ H { s with heap:=h' }:=I.kept (t':=s.toks) fun b o e=>hx b o (Nat.ne_of_lt (Heap.lt_size e)) e
 exact h pins _ σ H xs _ Q I1 (by simpa using rv) hw
def rBitLen:V→List V→Hp→VK→Prop:=fun x vs H Q=>∃ i,x=.int i∧vs=[]∧Q (.int ((Builtin.Int.intBits i:Nat):Int)) H
theorem mt_bitlen:MtR X "int.bit_length" rBitLen:=by
 intro pins s σ H x vs v us Q I rx rv h
 obtain ⟨i,rfl,rfl,q⟩:=h
 obtain ⟨t,rfl⟩:=rx
 cases rv
 exact call_int_bit_length ⟨.int _,H,I.tok _,⟨_,rfl⟩,q⟩
theorem meets_len_raw {prog:Program} {w:World} {d:Addr} (hd:(d==sysModules)=false) :
  MeetsIn prog w (Builtin.«dict.__len__» ⟨[.ref d],[]⟩) (fun _ R s=>∃ o es ep,s.heap.get? d=some o∧o.data=.dict es ep∧R (.ok (.ret (.int es.size s.toks))) { s with toks:=s.toks+1 }):=
 .of_wp fun A R s ⟨o,es,ep,ho,hdat,h⟩=>by
  show wpAny _ _ (dictSize d >>= _) _ _ s
  unfold dictSize
  refine wpAny_bind (wpAny_bind (wpAny_dictEntries ho hdat (wpAny_pure ?_)))
  show wpAny _ _ (Builtin.Dict.pendingCount d >>= _) _ _ s
  refine wpAny_bind (wpAny_pendingCount_other hd ?_)
  refine wpAny_ret_mkInt ?_
  simpa using h
theorem len_raw {prog:Program} {w:World} {A:Around} {E:Value→Shared→Prop} {s:Shared} {d:Addr} {o:Obj} {es:Array DictEntry} {ep:Nat} {Q:Value→Shared→Prop} (hd:(d==sysModules)=false) (ho:s.heap.get? d=some o) (hc:o.cls=.type "dict") (hdat:o.data=.dict es ep) (hfit:(es.size:Int) < 2 ^ 63)
  (h:Q (.int es.size (s.toks+1)) { s with toks:=s.toks+1+1 }):wpAny (model prog w) A (call (.builtin "len") [.ref d]) Q E s:=by
 have ht:s.TypeIs (.ref d) "dict":=⟨o,ho,hc⟩
 refine Calls.call_function_entry kind_len plain_len entry_len (args_len1 _) ?_
 unfold Builtin.«len»
 refine wpAny_bind (m:=oneArg "len" _) (wpAny_pure ?_)
 refine wpAny_bind (m:=callSpecial? (.ref d) (Str.ofString "__len__")) (wpAny_callSpecial?_slot (name:=Str.ofString "__len__") ht F.slot_dict_len
  (call_meetsIn F.slot_dict_len ht F.entry_dict_len (F.args_dict_len_1 _) (meets_len_raw hd) ⟨o,es,ep,ho,hdat,?_⟩))
 show wpAny _ _ _ _ _ { s with toks:=s.toks+1 }
 refine wpAny_bind (wpAny_holding (wpAny_pure ?_))
 refine wpAny_bind (wpAny_letGo ?_)
 show wpAny _ _ (if ((es.size:Nat):Int) < 0 then _ else _) _ _ _
 rw [if_neg (by omega)]
 show wpAny _ _ (if ((es.size:Nat):Int)≥2 ^ 63 then _ else _) _ _ _
 rw [if_neg (by omega)]
 exact wpAny_bind (wpAny_mkInt (wpAny_pure ⟨_,rfl,h⟩))
def rLenT:List V→Hp→VK→Prop:=fun xs H Q=>∃ a kvs,xs=[V.ref a]∧H a=some (.dT kvs)∧Q (.int kvs.length) H
theorem call_lenT:CallR X (.builtin "len") rLenT:=by
 intro pins s σ H xs us Q I r h
 obtain ⟨a,kvs,rfl,ha,q⟩:=h
 obtain ⟨u,rfl,ru⟩:=vals1 r
 cases ru
 obtain ⟨z,hd,xs,rel,o,es,ep,h1,h2,h3,h4,_⟩:=dt_of I.hok ha
 have hl:es.size=kvs.length:=by
  have e1:es.toList.length=xs.length:=by rw [h4,List.length_map]
  have e2:kvs.length=xs.length:=Paired.length rel
  rw [Array.length_toList] at e1
  omega
 refine len_raw hd h1 h2.1 h3 (by rw [hl]; rw [sizeLine_eq] at z; omega) ?_
 rw [hl]
 exact ⟨.int kvs.length,H,I.tok _,⟨_,rfl⟩,q⟩
def rLenZ:List V→Hp→VK→Prop:=fun xs H Q=>∃ a o kvs,xs=[V.ref a]∧H a=some (.frz o (.dT kvs))∧Q (.int kvs.length) H
theorem call_lenZ:CallR X (.builtin "len") rLenZ:=by
 intro pins s σ H xs us Q I r h
 obtain ⟨a,ob,kvs,rfl,ha,q⟩:=h
 obtain ⟨u,rfl,ru⟩:=vals1 r
 cases ru
 obtain ⟨z,hd,xs,rel,o,es,ep,h1,h2,h3,h4,_⟩:=dt_rd I.hok (.inr ⟨ob,ha⟩)
 have hl:es.size=kvs.length:=by
  have e1:es.toList.length=xs.length:=by rw [h4,List.length_map]
  have e2:kvs.length=xs.length:=Paired.length rel
  rw [Array.length_toList] at e1
  omega
 refine len_raw hd h1 h2.1 h3 (by rw [hl]; rw [sizeLine_eq] at z; omega) ?_
 rw [hl]
 exact ⟨.int kvs.length,H,I.tok _,⟨_,rfl⟩,q⟩
end
theorem sliceTake {x:Str} {k:Nat} (h:k≤x.length):(Txt.slice x none (some (k:Int))).cps.toList=x.cps.toList.take k:=by
 have hi:Builtin.Str.strSliceIndices none (some (k:Int)) 1 x.length=List.range k:=by
  unfold Builtin.Str.strSliceIndices sliceRange
  simp only [show (1:Int) > 0 by decide,if_true]
  rw [if_neg (by omega:¬ (k:Int) < 0),show max 0 (min (k:Int) (x.length:Int))=k by omega]
  by_cases hk:(0:Int) < k
  ·rw [if_pos hk]
   have:((k:Int)-0+1-1) / 1=k:=by omega
   rw [this,Int.toNat_natCast]
   refine List.ext_getElem (by simp) fun i h1 h2=>?_
   simp
  ·have:k=0:=by omega
   subst this
   simp
 unfold Txt.slice
 rw [hi]
 have hx:x.length=x.cps.size:=rfl
 split
 ·rename_i hc
  have:k=x.length:=by simpa using hc
  rw [List.take_of_length_le (by simp; omega)]
 ·refine List.ext_getElem? fun i=>?_
  show ((List.range k).filterMap fun j=>x.cps[j]?)[i]? = _
  have e:((List.range k).filterMap fun j=>x.cps[j]?)=x.cps.toList.take k:=by
   clear hi
   rename_i hc
   clear hc
   induction k with
   | zero=>simp
   | succ k ih=>
    rw [List.range_succ,List.filterMap_append,ih (by omega),List.take_add_one]
    congr 1
    have hk:k < x.cps.size:=by omega
    simp [hk]
  rw [e]
theorem sliceDrop {x:Str} {k:Nat} (h:k≤x.length):(Txt.slice x (some (k:Int)) none).cps.toList=x.cps.toList.drop k:=by
 have hx:x.length=x.cps.size:=rfl
 have hi:Builtin.Str.strSliceIndices (some (k:Int)) none 1 x.length=(List.range (x.length-k)).map fun j=>k+j:=by
  unfold Builtin.Str.strSliceIndices sliceRange
  simp only [show (1:Int) > 0 by decide,if_true]
  rw [if_neg (by omega:¬ (k:Int) < 0),show max 0 (min (k:Int) (x.length:Int))=k by omega]
  by_cases hk:(k:Int) < x.length
  ·rw [if_pos hk]
   have:(((x.length:Int)-k+1-1) / 1).toNat=x.length-k:=by omega
   rw [this]
   refine List.ext_getElem (by simp) fun i h1 h2=>?_
   simp
   omega
  ·have:x.length-k=0:=by omega
   rw [if_neg hk,this]
   simp
 unfold Txt.slice
 rw [hi]
 have e:(((List.range (x.length-k)).map fun j=>k+j).filterMap fun j=>x.cps[j]?)=x.cps.toList.drop k:=by
  refine List.ext_getElem? fun i=>?_
  rw [List.getElem?_drop,List.filterMap_map]
  have e2:∀ n,n≤x.length-k→((List.range n).filterMap ((fun j=>x.cps[j]?) ∘ fun j=>k+j))=(x.cps.toList.drop k).take n:=by
   intro n
   induction n with
   | zero=>intro _; simp
   | succ n ih=>
    intro hn
    rw [List.range_succ,List.filterMap_append,ih (by omega),List.take_add_one,List.getElem?_drop]
    congr 1
    have hk:k+n < x.cps.size:=by omega
    simp [hk]
  rw [e2 _ (Nat.le_refl _),List.take_of_length_le (by simp; omega),List.getElem?_drop]
 split
 ·rename_i hc
  have:k=0:=by
   have hc':x.length-k=x.length:=by simpa using hc
   have hx0:x.length=0∨k=0:=by omega
   omega
  subst this
  simp
 ·exact e
section
variable {X:Cx} {K:W.Frag}
def rInE (K:W.Frag):R2:=fun x y H Q=>rInS x y H Q∨rInD K x y H Q
def rNotInE (K:W.Frag):R2:=fun x y H Q=>rNotInS x y H Q∨rNotInD K x y H Q
theorem op_inE (hK:X.K=K) (hu:X.A.units+65 < cLine):OpR X (compareOp .In) (rInE K):=op_in_str.or (op_inD hK hu)
theorem op_notInE (hK:X.K=K) (hu:X.A.units+65 < cLine):OpR X (compareOp .NotIn) (rNotInE K):=op_notIn_str.or (op_notInD hK hu)
theorem PG.or {tg:Expr} {g g':TG} (h:PG X tg g) (h':PG X tg g'):PG X tg (fun v σ H Q=>g v σ H Q∨g' v σ H Q):=by
 intro pins s σ H v u Q I r q
 rcases q with q | q
 ·exact h pins s σ H v u Q I r q
 ·exact h' pins s σ H v u Q I r q
def gSeq (K:W.Frag) (n:Nat) (t:TGs):TG:=fun v σ H Q=>gTup K n t v σ H Q∨gLst K n t v σ H Q
theorem pg_seqK {es:List Expr} {k:Nat} {t:TGs} {n:Nat} {pos:Pos} (hK:X.K=K) (hc:X.calm=true) (h:PGs X es t)
  (hn:(assignEach es X.env).length=n:=by rfl) (hst:(assignEach es X.env).findIdx? (·.1)=none:=by rfl):PG X (.Tuple es k pos) (gSeq K n t):=(pg_tupK hK hc h hn hst).or (pg_lst hK hc h hn hst)
def rLenE (K:W.Frag):List V→Hp→VK→Prop:=fun xs H Q=>rLenG K xs H Q∨rLenT xs H Q
theorem call_lenE (hK:X.K=K):CallR X (.builtin "len") (rLenE K):=(call_lenK hK).or call_lenT
def rSlE (K:W.Frag):V→Option Int→Option Int→Hp→VK→Prop:=fun x lo hi H Q=>rSlS x lo hi H Q∨rSlL K x lo hi H Q∨rSlT K x lo hi H Q
theorem sl_seqE (hK:X.K=K):SlR X (rSlE K):=by
 subst hK
 exact sl_str.or (sl_list.or sl_tup)
end
section
variable {K:W.Frag} {σ:St} {H:Hp} {Q:VK} {v x y:V} {i j:Int} {ta tb:TE} {D:Ends} {p:Addr} {xs:List V}
theorem shaped_str {z:Str} (h:PyData.strOk z=true):SeqAt.shaped (.str z)=true:=by
 unfold SeqAt.shaped
 rw [show PyData.canLay0 (.str z)=PyData.strOk z from rfl,h,Bool.true_and]
 exact decide_eq_true (by simp [PyData.depth])
end
end L2
namespace L2
open PySem PySem.Spec PyProof.Rows
section
variable {prog:Program} {w:World} {A:Around} {E:Value→Shared→Prop} {s:Shared}
def RawD (h:Heap) (d:Addr) (es:Array DictEntry) (ep:Nat):Prop:=∃ o,h.get? d=some o∧o.cls=.type "dict"∧o.data=.dict es ep
theorem RawD.at {h h':Heap} {d:Addr} {es:Array DictEntry} {ep:Nat} (r:RawD h d es ep) (k:∀ o,h.get? d=some o→h'.get? d=some o):RawD h' d es ep:=let ⟨o,e,q⟩:=r; ⟨o,k o e,q⟩
theorem raw_iter {d:Addr} {es:Array DictEntry} {ep:Nat} {Q:Value→Shared→Prop} (nd:(d==sysModules)=false) (r:RawD s.heap d es ep)
  (q:Q (.ref s.heap.objs.size) { s with heap:=s.heap.push { cls:=.type "dict_keyiterator",data:=.fields #[.ref d,.int 0 0,.int es.size 0,.int ep 0] } }):wpAny (model prog w) A (pyIter (.ref d)) Q E s:=by
 obtain ⟨ob,e1,e2,e3⟩:=r
 have ty:s.TypeIs (.ref d) "dict":=⟨ob,e1,e2⟩
 refine wpAny_pyIter_slot ty F.slot_dict_iter (wpAny_call_entry F.slot_dict_iter ty F.entry_dict_iter ?_ (F.args_dict_iter_1 _)); unfold Builtin.«dict.__iter__»
 refine wpAny_bind ?_; unfold Builtin.Dict.dictSlotNone
 refine wpAny_bind (wpAny_notOrdered_dict ty ?_); show wpAny _ _ (pure (Value.ref d)) _ _ s
 refine wpAny_pure ?_; show wpAny _ _ (Builtin.Dict.showsAll d >>= _) _ _ s; unfold Builtin.Dict.showsAll; rw [if_neg (by rw [nd]; exact Bool.false_ne_true)]
 refine wpAny_bind (wpAny_pure (wpAny_bind (wpAny_dictEntries e1 e3 (wpAny_bind (wpAny_dictEpoch e1 e3 ?_)))))
 refine wpAny_bind (wpAny_newObj_type (wpAny_pure ⟨_,rfl,"dict_keyiterator",_,⟨_,Heap.get?_push_size _ rfl,rfl⟩,F.slot_dict_keyiterator_next.lookup,by simpa [rawInt] using q⟩))
theorem raw_next {it d:Addr} {i ep:Nat} {es:Array DictEntry} {Q:Option Value→Shared→Prop} (hi:s.heap.IsKeyIter it d i es.size ep) (r:RawD s.heap d es ep) (lt:i < es.size)
  (q:∀ h',h'.IsKeyIter it d (i+1) es.size ep→Heap.SameBut it s.heap h'→Q (some es[i].key) { s with heap:=h' }):wpAny (model prog w) A (pyNext (.ref it)) Q E s:=by
 obtain ⟨oi,f1,f2,f3⟩:=id hi
 obtain ⟨ob,e1,e2,e3⟩:=r
 unfold pyNext; refine wpAny_bind (wpAny_attempt (wpAny_callSpecial?_slot (name:=Str.ofString "__next__") hi.typeIs F.slot_dict_keyiterator_next (wpAny_call_entry F.slot_dict_keyiterator_next hi.typeIs F.entry_dict_keyiterator_next ?_ (F.args_dict_keyiterator_next_1 _))))
 refine wpAny_bind (wpAny_pure (wpAny_bind (wpAny_bind ?_)))
 first | (refine wpAny_bind (wpAny_typeNameOfWhole_keyiter hi.typeIs (wpAny_pure ?_)); skip) | (refine wpAny_bind (wpAny_typeNameOf_keyiter hi.typeIs (wpAny_pure ?_)); skip)
 refine wpAny_bind (wpAny_fieldsOf f1 f3 ?_)
 simp only [show Builtin.Dict_items.ownsTuple "dict_keyiterator"=false by decide,Bool.false_eq_true,if_false]; show wpAny _ _ (if (Value.ref d==Value.none)=true then _ else _) _ _ s
 rw [if_neg (by exact Bool.false_ne_true:¬ ((Value.ref d==Value.none)=true))]
 refine wpAny_bind (wpAny_pure (wpAny_bind (wpAny_dictEntries e1 e3 ?_))); rw [if_neg (by simp)]
 refine wpAny_bind (wpAny_pure (wpAny_bind (wpAny_dictEpoch e1 e3 ?_))); rw [if_neg (by simp)]
 refine wpAny_pure ?_; simp only [show ¬ ((i:Int) < 0) by omega,if_false,Int.toNat_natCast,Array.getElem?_eq_getElem lt]
 refine wpAny_bind ?_; first | (refine wpAny_bind (wpAny_typeNameOfWhole_keyiter hi.typeIs (wpAny_pure ?_)); skip) | (refine wpAny_bind (wpAny_typeNameOf_keyiter hi.typeIs (wpAny_pure ?_)); skip)
 refine wpAny_bind (wpAny_isOneOf_keyiter hi.typeIs ?_); show wpAny _ _ (setField (.ref it) 1 (rawInt ((i:Int)+1)) >>= _) _ _ s
 refine wpAny_bind (wpAny_setField f1 f3 (by simp) ?_)
 have hi':(s.heap.update it (Obj.mapFields (·.setIfInBounds 1 (rawInt ((i:Int)+1))))).IsKeyIter it d (i+1) es.size ep:=⟨_,Heap.get?_update_self _ f1 (Obj.isFreed_of_fields (Obj.data_mapFields f3 _)),(Obj.cls_mapFields ..).trans f2,by rw [Obj.data_mapFields f3]; simp [rawInt]⟩
 refine wpAny_bind (wpAny_holding (wpAny_bind (wpAny_isOneOf_keyiter (s:={ s with heap:=s.heap.update it (Obj.mapFields (·.setIfInBounds 1 (rawInt ((i:Int)+1)))) }) hi'.typeIs ?_))); show wpAny _ _ (pure es[i].key) _ _ _
 exact wpAny_pure (wpAny_pure ⟨_,rfl,wpAny_pure (q _ hi' (Heap.SameBut.update ..))⟩)
theorem raw_end {it d:Addr} {ep:Nat} {es:Array DictEntry} {Q:Option Value→Shared→Prop} (hh:A.handled=none) (hi:s.heap.IsKeyIter it d es.size es.size ep) (r:RawD s.heap d es ep)
  (q:∀ h',Heap.ExtBut it s.heap h'→Q none { s with heap:=h' }):wpAny (model prog w) A (pyNext (.ref it)) Q E s:=by
 obtain ⟨oi,f1,f2,f3⟩:=id hi
 obtain ⟨ob,e1,e2,e3⟩:=r
 unfold pyNext; refine wpAny_bind (wpAny_attempt (wpAny_callSpecial?_slot (name:=Str.ofString "__next__") hi.typeIs F.slot_dict_keyiterator_next (wpAny_call_entry F.slot_dict_keyiterator_next hi.typeIs F.entry_dict_keyiterator_next ?_ (F.args_dict_keyiterator_next_1 _))))
 refine wpAny_bind (wpAny_pure (wpAny_bind (wpAny_bind ?_)))
 first | (refine wpAny_bind (wpAny_typeNameOfWhole_keyiter hi.typeIs (wpAny_pure ?_)); skip) | (refine wpAny_bind (wpAny_typeNameOf_keyiter hi.typeIs (wpAny_pure ?_)); skip)
 refine wpAny_bind (wpAny_fieldsOf f1 f3 ?_)
 simp only [show Builtin.Dict_items.ownsTuple "dict_keyiterator"=false by decide,Bool.false_eq_true,if_false]; show wpAny _ _ (if (Value.ref d==Value.none)=true then _ else _) _ _ s
 rw [if_neg (by exact Bool.false_ne_true:¬ ((Value.ref d==Value.none)=true))]
 refine wpAny_bind (wpAny_pure (wpAny_bind (wpAny_dictEntries e1 e3 ?_))); rw [if_neg (by simp)]
 refine wpAny_bind (wpAny_pure (wpAny_bind (wpAny_dictEpoch e1 e3 ?_))); rw [if_neg (by simp)]
 refine wpAny_pure ?_; simp only [show ¬ ((es.size:Int) < 0) by omega,if_false,Int.toNat_natCast,Array.getElem?_eq_none (Nat.le_refl es.size)]
 refine wpAny_bind ?_; first | (refine wpAny_bind (wpAny_typeNameOfWhole_keyiter hi.typeIs (wpAny_pure ?_)); skip) | (refine wpAny_bind (wpAny_typeNameOf_keyiter hi.typeIs (wpAny_pure ?_)); skip)
 show wpAny _ _ (setField (.ref it) 0 .none >>= _) _ _ s; refine wpAny_bind (wpAny_setField f1 f3 (by simp) ?_)
 show wpAny _ _ (newExc (.type "StopIteration") [] >>= _) _ _ _; refine wpAny_bind ?_; simp only [newExc,newTuple]
 refine wpAny_bind (wpAny_newObj_type ?_ (by size_fits)); refine wpAny_bind (m:=firstArgMember _ _) (wpAny_of_eq (a:=Value.none) (by first | rfl | (simp only [firstArgMember]; rfl)) ?_)
 refine wpAny_newObj_type ?_ (by size_fits); simp only [raiseNew]; refine wpAny_bind (wpAny_handled ?_); rw [show A.in1.handled=none from hh]
 refine wpAny_bind (wpAny_pure (wpAny_throw ?_)); refine wpAny_bind (wpAny_isInstance (T:="StopIteration") (b:=true) ⟨_,Heap.get?_push_size _ rfl,rfl⟩ isSubtype_stop ?_)
 exact wpAny_pure (q _ (((Heap.SameBut.update ..).extBut.push _).push _))
theorem raw_walks (hh:A.handled=none) (I d:Addr) (ne:d≠I) (es:Array DictEntry) (ep:Nat):PySem.Walks prog w A I [I,d] [I] es.size (fun i v=>∃ e,es[i]? = some e∧v=e.key) (fun i h=>h.IsKeyIter I d i es.size ep∧RawD h d es ep) where
 sub:=fun b hb=>by simp at hb; simp [hb]
 frame:=fun _ _ _ st k=>⟨st.1.at fun o e=>k I (by simp) o e,st.2.at fun o e=>k d (by simp) o e⟩
 item:=fun i s Q E lt st hQ=>raw_next st.1 st.2 lt fun h' hi' hs'=>hQ _ h' s.toks ⟨es[i],by simp [lt],rfl⟩ ⟨hi',st.2.at fun o e=>hs'.extBut d o ne e⟩ fun b o hb e=>hs'.extBut b o (fun z=>hb (by simp [z])) e
 done:=fun s Q E st hQ=>raw_end hh st.1 st.2 fun h' he'=>hQ h' s.toks fun b o hb e=>he' b o (fun z=>hb (by simp [z])) e
 self:=fun _ _ _ _ st hQ=>wpAny_pyIter_keyiter st.1 hQ
theorem raw_hint {d:Addr} {es:Array DictEntry} {ep:Nat} {Q:Bool→Shared→Prop} (r:RawD s.heap d es ep) (q:Q false s):wpAny (model prog w) A (Builtin.List.listLengthHint (.ref d)) Q E s:=by
 obtain ⟨ob,e1,e2,e3⟩:=id r
 have ty:s.TypeIs (.ref d) "dict":=⟨ob,e1,e2⟩
 unfold Builtin.List.listLengthHint; refine wpAny_bind (wpAny_specialOf ty F.slot_dict_len.lookup ?_)
 generalize hid:("dict.__len__":String)=id0; wp_delta
 rw [show splitId id0=some ("dict","__len__") from by subst hid; decide +kernel]; subst hid
 refine wpAny_bind (wpAny_isInstance (T:="dict") (b:=true) ty (by rw [isSubtype_type]; kernel_rfl) ?_)
 refine wpAny_ite_split (fun hab=>absurd hab (by decide)) (fun _=>wpAny_ite_split (fun _=>?_) (fun hab=>absurd (by decide +kernel) hab))
 exact wpAny_bind (wpAny_typeOf ty (wpAny_pure q))
theorem raw_extend {R:Result→Shared→Prop} {d:Addr} {es:Array DictEntry} {ep:Nat} (hh:A.handled=none) (nd:(d==sysModules)=false) (r:RawD s.heap d es ep) (z:es.size≤sizeLine) (S:Addr) (c₀:Nat) (hS:s.heap.get? S=some { cls:=.type "list",data:=.seq #[] c₀ })
  (hR:∀ h' tk acc' c',(∀ b o,b≠S→s.heap.get? b=some o→h'.get? b=some o)→h'.get? S=some { cls:=.type "list",dict:=none,data:=.seq acc' c',slots:=#[] }→ItemsOf (fun i v=>∃ e,es[i]? = some e∧v=e.key) acc' es.size→R (.ok (.ret .none)) { s with heap:=h',toks:=tk }) :
  wpAny (model prog w) A.in1 (Builtin.List.listExtendWith (.ref S) (.ref d) .none) (fun fin s'=>match fin with | .done f=>R (.ok f) s' | .again c'=>c'.quiet=true∧codeAny (model prog w) A c' R s') (fun e s'=>R (.error e) s') s:=by
 obtain ⟨ob,e1,e2,e3⟩:=id r
 have nSd:S≠d:=fun e=>by rw [e,e1] at hS; cases hS; exact absurd (show Value.type "list"=Value.type "dict" from e2) (by decide)
 have nSI:S≠s.heap.objs.size:=Nat.ne_of_lt (Heap.lt_size hS)
 have ndI:d≠s.heap.objs.size:=Nat.ne_of_lt (Heap.lt_size e1)
 have nSf:S∉[s.heap.objs.size,d]:=by simp [nSd,nSI]
 have W:=(raw_walks (prog:=prog) (w:=w) (A:=A.in1) hh s.heap.objs.size d ndI es ep).toS
 have key:∀ (h:Heap) (c₁ tk:Nat),(h.IsKeyIter s.heap.objs.size d 0 es.size ep∧RawD h d es ep)→(∀ b o,b≠S→s.heap.get? b=some o→h.get? b=some o)→h.get? S=some { cls:=.type "list",data:=.seq #[] c₁ }→
   codeAny (model prog w) A (.builtin "list.extend.loop" ⟨[.ref S,.ref s.heap.objs.size,.none],[]⟩) R { s with heap:=h,toks:=tk }:=fun h c₁ tk hit hk hS₁=>by
  refine codeAny_extend_loopS W z S nSf .none es.size 0 _ #[] c₁ rfl (Nat.zero_le _) hit hS₁ (ItemsOf.nil _) fun s' acc' c' hm hS' hacc=>?_
  rw [Moved.eq_with hm]; refine hR s'.heap s'.toks acc' c' (fun b o hb e=>hm.heap b o (fun hmem=>?_) (hk b o hb e)) hS' hacc
  rcases List.mem_cons.mp hmem with e' | hmem
  ·exact hb e'
  ·rw [List.mem_singleton] at hmem; subst hmem; exact absurd (Heap.lt_size e) (Nat.lt_irrefl _)
 unfold Builtin.List.listExtendWith; refine wpAny_bind (wpAny_typeOf (T:="dict") ⟨ob,e1,e2⟩ ?_)
 simp only [show Builtin.List.listSameRef (.ref S) (.ref d)=false by simp [Builtin.List.listSameRef,nSd],show (Value.type "dict"==Value.type "list")=false by decide,show (Value.type "dict"==Value.type "tuple")=false by decide,Bool.or_false,Bool.false_eq_true,if_false]
 refine wpAny_bind (raw_iter nd r ?_)
 have r₁:RawD (s.heap.push { cls:=.type "dict_keyiterator",data:=.fields #[.ref d,.int 0 0,.int es.size 0,.int ep 0] }) d es ep:=r.at fun o e=>Heap.get?_push_of_some _ e
 refine wpAny_bind (wpAny_holding (raw_hint r₁ ?_))
 have i₁:(s.heap.push { cls:=.type "dict_keyiterator",data:=.fields #[.ref d,.int 0 0,.int es.size 0,.int ep 0] }).IsKeyIter s.heap.objs.size d 0 es.size ep:=⟨_,Heap.get?_push_size _ rfl,rfl,rfl⟩
 have S₁:=Heap.get?_push_of_some { cls:=.type "dict_keyiterator",data:=.fields #[.ref d,.int 0 0,.int es.size 0,.int ep 0] } hS
 refine wpAny_ite_split (fun _=>?_) (fun hab=>absurd (by decide) hab)
 refine wpAny_bind (wpAny_rule (wpAny_bind ?_)); show wpAny _ _ (updateSeq S (·.push .none) >>= fun _=>updateSeq S (·.pop)) _ _ _
 refine wpAny_bind (wpAny_updateSeq S₁ rfl ?_)
 have S₂:=Heap.get?_update_self (Obj.mapSeq (·.push Value.none)) S₁ rfl
 refine wpAny_updateSeq (hz:=by seq_fits) S₂ rfl ?_
 have S₃:=Heap.get?_update_self (Obj.mapSeq (·.pop)) S₂ rfl
 have oth:∀ b o,b≠S→(s.heap.push { cls:=.type "dict_keyiterator",data:=.fields #[.ref d,.int 0 0,.int es.size 0,.int ep 0] }).get? b=some o→((((s.heap.push { cls:=.type "dict_keyiterator",data:=.fields #[.ref d,.int 0 0,.int es.size 0,.int ep 0] }).update S (Obj.mapSeq (·.push Value.none))).update S (Obj.mapSeq (·.pop)))).get? b=some o:=
  fun b o hb e=>(Heap.get?_update_other _ _ (Ne.symm hb)).trans ((Heap.get?_update_other _ _ (Ne.symm hb)).trans e)
 exact wpAny_pure ⟨plainId_quiet F.plain_extend_loop _,key _ _ _ ⟨i₁.at fun o e=>oth _ o (Ne.symm nSI) e,r₁.at fun o e=>oth _ o (Ne.symm nSd) e⟩ (fun b o hb e=>oth b o hb (Heap.get?_push_of_some _ e)) S₃⟩
theorem raw_list {Q:Value→Shared→Prop} {d:Addr} {es:Array DictEntry} {ep:Nat} (hh:A.handled=none) (nd:(d==sysModules)=false) (r:RawD s.heap d es ep) (z:es.size≤sizeLine)
  (hQ:∀ h' tk acc' c',(∀ b o,s.heap.get? b=some o→h'.get? b=some o)→h'.get? s.heap.objs.size=some { cls:=.type "list",dict:=none,data:=.seq acc' c',slots:=#[] }→ItemsOf (fun i v=>∃ e,es[i]? = some e∧v=e.key) acc' es.size→Q (.ref s.heap.objs.size) { s with heap:=h',toks:=tk }) :
  wpAny (model prog w) A (call (.type "list") [.ref d]) Q E s:=by
 refine callType_codes (Q₁:=fun obj s₁=>obj=.ref s.heap.objs.size∧s₁={ s with heap:=s.heap.push { cls:=.type "list",data:=.seq #[] } }) F.called_list (F.typeCall_list_1 _) F.entry_list_init (code_list_new _ ⟨rfl,rfl⟩) fun obj s₁ h₁=>?_
 obtain ⟨rfl,rfl⟩:=h₁
 have hS:(s.heap.push { cls:=.type "list",data:=.seq #[] }).get? s.heap.objs.size=some { cls:=.type "list",data:=.seq #[] }:=by exact Heap.get?_push_size _ rfl
 have r₁:RawD (s.heap.push { cls:=.type "list",data:=.seq #[] }) d es ep:=r.at fun o e=>Heap.get?_push_of_some _ e
 refine ⟨⟨_,hS,rfl⟩,F.args_list_init_2 _ _,?_⟩
 show wpAny _ _ (do let old ← Builtin.List.listItems (.ref s.heap.objs.size); Builtin.List.listUpdate (.ref s.heap.objs.size) (fun _=>#[]); letGo old.toList.reverse; Builtin.List.listExtendWith (.ref s.heap.objs.size) (.ref d) .none) _ _ _
 refine wpAny_bind ?_; unfold Builtin.List.listItems; refine wpAny_bind (wpAny_seqItems hS rfl (wpAny_pure ?_))
 show wpAny _ _ (updateSeq s.heap.objs.size (fun _=>#[]) >>= fun _=>letGo (#[]:Array Value).toList.reverse >>= fun _=>Builtin.List.listExtendWith (.ref s.heap.objs.size) (.ref d) .none) _ _ _
 refine wpAny_bind (wpAny_updateSeq hS rfl ?_)
 have S₂:=Heap.get?_update_self (Obj.mapSeq (fun _=>(#[]:Array Value))) hS rfl
 have oth:∀ b o,b≠s.heap.objs.size→(s.heap.push { cls:=.type "list",data:=.seq #[] }).get? b=some o→((s.heap.push { cls:=.type "list",data:=.seq #[] }).update s.heap.objs.size (Obj.mapSeq (fun _=>(#[]:Array Value)))).get? b=some o:=fun b o hb e=>by exact (Heap.get?_update_other _ _ (Ne.symm hb)).trans e
 have ndI:d≠s.heap.objs.size:=by obtain ⟨ob,e1,_⟩:=r; exact Nat.ne_of_lt (Heap.lt_size e1)
 refine wpAny_bind (wpAny_letGo (raw_extend (A:=A.in1) hh nd (r₁.at fun o e=>oth d o ndI e) z _ _ S₂ fun h' tk acc' c' hk hS' hacc=>?_))
 exact ⟨rfl,hQ h' tk acc' c' (fun b o e=>hk b o (Nat.ne_of_lt (Heap.lt_size e)) (oth b o (Nat.ne_of_lt (Heap.lt_size e)) (Heap.get?_push_of_some _ e))) hS' hacc⟩
end
end L2
namespace L2
open PySem PySem.Spec PyProof.Rows
inductive D where
 | non | bl (b:Bool) | int (i:Int) | str (x:Str) | ty (n:String) | adr (a:Addr) | cls (c:Nat)
 | tup (xs:List D) | lst (xs:List D) | kt (xs:List D) | fz (xs:List D) | dK (kvs:List (Key×D)) | dT (kvs:List (List Key×D)) | dZ (kvs:List (List Key×D)) | ins (c:Nat) (fs:List (Str×D))
instance:Inhabited D:=⟨.non⟩
structure Bk where
 K:W.Frag
 cl:Nat→Addr
def KnL (K:W.Frag) (a:Addr) (xs:List V):Prop:=∃ (o:Obj) (its:Array Value) (n:Nat),K.lookup a=some o∧o.cls=.type "list"∧o.dict=none∧o.data=.seq its n∧its.size≤sizeLine∧Vals xs its.toList
def KnT (K:W.Frag) (a:Addr) (xs:List V):Prop:=∃ (o:Obj) (its:Array Value) (n:Nat),K.lookup a=some o∧o.cls=.type "tuple"∧o.data=.seq its n∧its.size≤sizeLine∧Vals xs its.toList
def NdL (B:Bk) (H:Hp) (F:Addr→Prop) (a:Addr) (xs:List V):Prop:=F a∧H a=some (.lst xs)
def NdT (B:Bk) (H:Hp) (F:Addr→Prop) (a:Addr) (xs:List V):Prop:=F a∧H a=some (.tup xs)
def NdF (B:Bk) (H:Hp) (F:Addr→Prop) (a:Addr) (xs:List V):Prop:=(F a∧∃ o,H a=some (.frz o (.lst xs)))∨KnL B.K a xs
theorem NdF.sq {B:Bk} {H:Hp} {F:Addr→Prop} {a:Addr} {xs:List V} (h:NdF B H F a xs):SqL B.K H a xs:=by
 rcases h with ⟨_,o,h⟩ | h
 ·exact .inl (.inr ⟨o,h⟩)
 ·exact .inr h
theorem NdF.keep {B:Bk} {H H':Hp} {F F':Addr→Prop} {a:Addr} {xs:List V} (h:NdF B H F a xs) (k:∀ b o,F b→H b=some o→H' b=some o) (up:∀ b,F b→F' b):NdF B H' F' a xs:=by
 rcases h with ⟨f,o,h⟩ | h
 ·exact .inl ⟨up _ f,o,k _ _ f h⟩
 ·exact .inr h
theorem NdL.sq {B:Bk} {H:Hp} {F:Addr→Prop} {a:Addr} {xs:List V} (h:NdL B H F a xs):SqL B.K H a xs:=.inl (.inl h.2)
theorem NdT.sq {B:Bk} {H:Hp} {F:Addr→Prop} {a:Addr} {xs:List V} (h:NdT B H F a xs):SqT B.K H a xs:=.inl (.inl h.2)
theorem KnT.sq {K:W.Frag} {H:Hp} {a:Addr} {xs:List V} (h:KnT K a xs):SqT K H a xs:=.inr h
mutual
/-- the tree d lies at v,all its nodes within F -/
inductive DA (B:Bk) (H:Hp) (F:Addr→Prop):V→D→Prop
 | non:DA B H F .non .non
 | bl (b:Bool):DA B H F (.bl b) (.bl b)
 | int (i:Int):DA B H F (.int i) (.int i)
 | str (x:Str):DA B H F (.str x) (.str x)
 | ty (n:String):DA B H F (.ty n) (.ty n)
 | adr (a:Addr):DA B H F (.ref a) (.adr a)
 | cls (c:Nat):DA B H F (.ref (B.cl c)) (.cls c)
 | tup {a:Addr} {xs:List V} {ds:List D} (h:NdT B H F a xs) (r:DAs B H F xs ds):DA B H F (.ref a) (.tup ds)
 | lst {a:Addr} {xs:List V} {ds:List D} (h:NdL B H F a xs) (r:DAs B H F xs ds):DA B H F (.ref a) (.lst ds)
 | kt {a:Addr} {xs:List V} {ds:List D} (h:KnT B.K a xs) (r:DAs B H F xs ds):DA B H F (.ref a) (.kt ds)
 | fz {a:Addr} {xs:List V} {ds:List D} (h:NdF B H F a xs) (r:DAs B H F xs ds):DA B H F (.ref a) (.fz ds)
 | dK {a:Addr} {kvs:List (Key×V)} {ds:List (Key×D)} (f:F a) (h:H a=some (.dK kvs)) (e:kvs.map (·.1)=ds.map (·.1)) (r:DAs B H F (kvs.map (·.2)) (ds.map (·.2))):DA B H F (.ref a) (.dK ds)
 | dT {a:Addr} {kvs:List (List Key×V)} {ds:List (List Key×D)} (f:F a) (h:H a=some (.dT kvs)) (e:kvs.map (·.1)=ds.map (·.1)) (r:DAs B H F (kvs.map (·.2)) (ds.map (·.2))):DA B H F (.ref a) (.dT ds)
 | dZ {a:Addr} {o:Obj} {kvs:List (List Key×V)} {ds:List (List Key×D)} (f:F a) (h:H a=some (.frz o (.dT kvs))) (e:kvs.map (·.1)=ds.map (·.1)) (r:DAs B H F (kvs.map (·.2)) (ds.map (·.2))):DA B H F (.ref a) (.dZ ds)
 | ins {a dx:Addr} {c:Nat} {fs:List (Str×V)} {ds:List (Str×D)} (f:F a) (h:H a=some (.ins (B.cl c) dx fs)) (e:fs.map (·.1)=ds.map (·.1)) (r:DAs B H F (fs.map (·.2)) (ds.map (·.2))):DA B H F (.ref a) (.ins c ds)
inductive DAs (B:Bk) (H:Hp) (F:Addr→Prop):List V→List D→Prop
 | nil:DAs B H F [] []
 | cons {x:V} {d:D} {xs:List V} {ds:List D} (h:DA B H F x d) (r:DAs B H F xs ds):DAs B H F (x :: xs) (d :: ds)
end
section
variable {B:Bk} {H H':Hp} {F F':Addr→Prop}
mutual
theorem DA.mono (k:∀ b o,F b→H b=some o→H' b=some o) (up:∀ b,F b→F' b):∀ {v:V} {d:D},DA B H F v d→DA B H' F' v d
 | _,_,.non=>.non
 | _,_,.bl b=>.bl b
 | _,_,.int i=>.int i
 | _,_,.str x=>.str x
 | _,_,.ty n=>.ty n
 | _,_,.adr a=>.adr a
 | _,_,.cls c=>.cls c
 | _,_,.tup h r=>.tup ⟨up _ h.1,k _ _ h.1 h.2⟩ (DAs.mono k up r)
 | _,_,.lst h r=>.lst ⟨up _ h.1,k _ _ h.1 h.2⟩ (DAs.mono k up r)
 | _,_,.kt h r=>.kt h (DAs.mono k up r)
 | _,_,.fz h r=>.fz (h.keep k up) (DAs.mono k up r)
 | _,_,.dK f h e r=>.dK (up _ f) (k _ _ f h) e (DAs.mono k up r)
 | _,_,.dT f h e r=>.dT (up _ f) (k _ _ f h) e (DAs.mono k up r)
 | _,_,.dZ f h e r=>.dZ (up _ f) (k _ _ f h) e (DAs.mono k up r)
 | _,_,.ins f h e r=>.ins (up _ f) (k _ _ f h) e (DAs.mono k up r)
theorem DAs.mono (k:∀ b o,F b→H b=some o→H' b=some o) (up:∀ b,F b→F' b):∀ {vs:List V} {ds:List D},DAs B H F vs ds→DAs B H' F' vs ds
 | _,_,.nil=>.nil
 | _,_,.cons h r=>.cons (DA.mono k up h) (DAs.mono k up r)
end
theorem DAs.length:∀ {vs:List V} {ds:List D},DAs B H F vs ds→vs.length=ds.length
 | _,_,.nil=>rfl
 | _,_,.cons _ r=>by rw [List.length_cons,List.length_cons,DAs.length r]
theorem DAs.get:∀ {vs:List V} {ds:List D} {i:Nat} {d:D},DAs B H F vs ds→ds[i]? = some d→∃ v,vs[i]? = some v∧DA B H F v d
 | _,_,_,_,.nil,e=>by simp at e
 | _,_,0,_,.cons h _,e=>by simp at e; subst e; exact ⟨_,rfl,h⟩
 | _,_,i+1,_,.cons _ r,e=>by simpa using DAs.get (i:=i) r (by simpa using e)
theorem DAs.append:∀ {vs ws:List V} {ds es:List D},DAs B H F vs ds→DAs B H F ws es→DAs B H F (vs++ws) (ds++es)
 | _,_,_,_,.nil,q=>q
 | _,_,_,_,.cons h r,q=>.cons h (DAs.append r q)
theorem DAs.one {vs:List V} {d:D} (h:DAs B H F vs [d]):∃ v,vs=[v]∧DA B H F v d:=by
 cases h with
 | cons h r=>cases r; exact ⟨_,rfl,h⟩
theorem DAs.two {vs:List V} {d e:D} (h:DAs B H F vs [d,e]):∃ v w,vs=[v,w]∧DA B H F v d∧DA B H F w e:=by
 cases h with
 | cons h r=>cases r with
  | cons h' r=>cases r; exact ⟨_,_,rfl,h,h'⟩
theorem DAs.take:∀ {vs:List V} {ds:List D} (n:Nat),DAs B H F vs ds→DAs B H F (vs.take n) (ds.take n)
 | _,_,0,_=>by simpa using DAs.nil
 | _,_,_+1,.nil=>by simpa using DAs.nil
 | _,_,n+1,.cons h r=>by simpa using DAs.cons h (DAs.take n r)
theorem DAs.drop:∀ {vs:List V} {ds:List D} (n:Nat),DAs B H F vs ds→DAs B H F (vs.drop n) (ds.drop n)
 | _,_,0,h=>by simpa using h
 | _,_,_+1,.nil=>by simpa using DAs.nil
 | _,_,n+1,.cons h r=>by simpa using DAs.drop n r
end
theorem das_ints {B:Bk} {H:Hp} {F:Addr→Prop}:∀ ns:List Int,DAs B H F (ns.map V.int) (ns.map D.int)
 | []=>.nil
 | n :: ns=>.cons (.int n) (das_ints ns)
inductive SV where
 | sh (d:D) | li (xs:List D) | lk (xs:List D) | ll (xss:List (List D)) | dK (kvs:List (Key×D)) | dT (kvs:List (List Key×D)) | ob (c:Nat) (fs:List (Str×D)) | pu (ns:List Int)
@[simp] def SV.fr:SV→D
 | .sh d=>d
 | .li xs=>.lst xs
 | .lk xs=>.lst xs
 | .ll xss=>.lst (xss.map D.lst)
 | .dK kvs=>.dK kvs
 | .dT kvs=>.dT kvs
 | .ob c fs=>.ins c fs
 | .pu ns=>.lst (ns.map D.int)
inductive LAs (B:Bk) (H:Hp) (F:Addr→Prop):List Addr→List (List D)→Prop
 | nil:LAs B H F [] []
 | cons {a:Addr} {xs:List V} {ds:List D} {as:List Addr} {dss:List (List D)} (h:H a=some (.lst xs)) (q:DAs B H F xs ds) (r:LAs B H F as dss):LAs B H F (a :: as) (ds :: dss)
def VA (B:Bk) (H:Hp) (F:Addr→Prop) (v:V):SV→List Addr→Prop
 | .sh d,o=>o=[]∧DA B H F v d
 | .li ds,o=>∃ a xs,v=.ref a∧o=[a]∧¬ F a∧H a=some (.lst xs)∧DAs B H F xs ds
 | .lk ds,o=>∃ a xs,v=.ref a∧o=[a]∧¬ F a∧H a=some (.lst xs)∧DAs B H F xs ds
 | .ll dss,o=>∃ a as,v=.ref a∧o=a :: as∧(a :: as).Nodup∧(∀ b∈a :: as,¬ F b)∧H a=some (.lst (as.map V.ref))∧LAs B H F as dss
 | .dK ds,o=>∃ a kvs,v=.ref a∧o=[a]∧¬ F a∧H a=some (.dK kvs)∧kvs.map (·.1)=ds.map (·.1)∧DAs B H F (kvs.map (·.2)) (ds.map (·.2))
 | .dT ds,o=>∃ a kvs,v=.ref a∧o=[a]∧¬ F a∧H a=some (.dT kvs)∧kvs.map (·.1)=ds.map (·.1)∧DAs B H F (kvs.map (·.2)) (ds.map (·.2))
 | .ob c ds,o=>∃ a dx fs,v=.ref a∧o=[a]∧¬ F a∧H a=some (.ins (B.cl c) dx fs)∧fs.map (·.1)=ds.map (·.1)∧DAs B H F (fs.map (·.2)) (ds.map (·.2))
 | .pu ns,o=>∃ a,v=.ref a∧o=[a]∧¬ F a∧H a=some (.lst (ns.map V.int))
section
variable {B:Bk} {H H':Hp} {F F':Addr→Prop} {v:V} {x:SV} {o:List Addr}
theorem LAs.mono (k:∀ b u,F b→H b=some u→H' b=some u) (up:∀ b,F b→F' b):∀ {as:List Addr} {dss:List (List D)},(∀ b u,b∈as→H b=some u→H' b=some u)→LAs B H F as dss→LAs B H' F' as dss
 | _,_,_,.nil=>.nil
 | _,_,ko,.cons h q r=>.cons (ko _ _ (by simp) h) (q.mono k up) (LAs.mono k up (fun b u hb=>ko b u (by simp [hb])) r)
theorem LAs.alive:∀ {as:List Addr} {dss:List (List D)},LAs B H F as dss→∀ b,b∈as→∃ xs,H b=some (.lst xs)
 | _,_,.nil,b,hb=>by simp at hb
 | _,_,.cons h q r,b,hb=>by
  rcases List.mem_cons.mp hb with rfl | hb
  ·exact ⟨_,h⟩
  ·exact LAs.alive r b hb
theorem LAs.frozen (up:∀ b,F b→F' b):∀ {as:List Addr} {dss:List (List D)},LAs B H F as dss→(∀ b,b∈as→F' b)→DAs B H F' (as.map V.ref) (dss.map D.lst)
 | _,_,.nil,_=>.nil
 | _,_,.cons h q r,yes=>.cons (.lst ⟨yes _ (by simp),h⟩ (q.mono (fun _ _ _ e=>e) up)) (LAs.frozen up r fun b hb=>yes b (by simp [hb]))
theorem VA.mono (h:VA B H F v x o) (k:∀ b u,F b→H b=some u→H' b=some u) (ko:∀ b u,b∈o→H b=some u→H' b=some u) (up:∀ b,F b→F' b) (no:∀ b,b∈o→¬ F' b):VA B H' F' v x o:=by
 cases x with
 | sh d=>exact ⟨h.1,h.2.mono k up⟩
 | li ds=>obtain ⟨a,xs,e,rfl,_,hh,r⟩:=h; exact ⟨a,xs,e,rfl,no a (by simp),ko a _ (by simp) hh,r.mono k up⟩
 | lk ds=>obtain ⟨a,xs,e,rfl,_,hh,r⟩:=h; exact ⟨a,xs,e,rfl,no a (by simp),ko a _ (by simp) hh,r.mono k up⟩
 | ll ds=>obtain ⟨a,as,e,rfl,nd,_,hh,r⟩:=h; exact ⟨a,as,e,rfl,nd,no,ko a _ (by simp) hh,r.mono k up fun b u hb=>ko b u (by simp [hb])⟩
 | dK ds=>obtain ⟨a,xs,e,rfl,_,hh,q,r⟩:=h; exact ⟨a,xs,e,rfl,no a (by simp),ko a _ (by simp) hh,q,r.mono k up⟩
 | dT ds=>obtain ⟨a,xs,e,rfl,_,hh,q,r⟩:=h; exact ⟨a,xs,e,rfl,no a (by simp),ko a _ (by simp) hh,q,r.mono k up⟩
 | ob c ds=>obtain ⟨a,dx,xs,e,rfl,_,hh,q,r⟩:=h; exact ⟨a,dx,xs,e,rfl,no a (by simp),ko a _ (by simp) hh,q,r.mono k up⟩
 | pu ns=>obtain ⟨a,e,rfl,_,hh⟩:=h; exact ⟨a,e,rfl,no a (by simp),ko a _ (by simp) hh⟩
theorem VA.alive (h:VA B H F v x o) {a:Addr} (e:a∈o):H a≠none∧¬ F a∧∀ xs,H a≠some (.tup xs):=by
 have fin:∀ {u:HO},H a=some u→(∀ xs,u≠.tup xs)→(∀ ob xs,u≠.frz ob (.tup xs))→¬ F a→H a≠none∧¬ F a∧∀ xs,H a≠some (.tup xs):=fun {u} hu n1 n2 nf=>by
  refine ⟨by rw [hu]; simp,nf,fun ys q=>?_⟩
  rw [hu] at q; exact n1 _ (Option.some.inj q)
 cases x with
 | sh d=>rw [h.1] at e; simp at e
 | li ds=>obtain ⟨b,xs,e1,rfl,nf,hh,r⟩:=h; cases List.mem_singleton.mp e; exact fin hh (by simp) (by simp) nf
 | lk ds=>obtain ⟨b,xs,e1,rfl,nf,hh,r⟩:=h; cases List.mem_singleton.mp e; exact fin hh (by simp) (by simp) nf
 | ll ds=>
  obtain ⟨b,as,e1,rfl,nd,nf,hh,r⟩:=h
  rcases List.mem_cons.mp e with rfl | e'
  ·exact fin hh (by simp) (by simp) (nf _ e)
  ·obtain ⟨xs,hx⟩:=r.alive _ e'
   exact fin hx (by simp) (by simp) (nf _ e)
 | dK ds=>obtain ⟨b,xs,e1,rfl,nf,hh,r⟩:=h; cases List.mem_singleton.mp e; exact fin hh (by simp) (by simp) nf
 | dT ds=>obtain ⟨b,xs,e1,rfl,nf,hh,r⟩:=h; cases List.mem_singleton.mp e; exact fin hh (by simp) (by simp) nf
 | ob c ds=>obtain ⟨b,dx,xs,e1,rfl,nf,hh,r⟩:=h; cases List.mem_singleton.mp e; exact fin hh (by simp) (by simp) nf
 | pu ns=>obtain ⟨b,e1,rfl,nf,hh⟩:=h; cases List.mem_singleton.mp e; exact fin hh (by simp) (by simp) nf
theorem VA.frozen (h:VA B H F v x o) (up:∀ b,F b→F' b) (yes:∀ b,b∈o→F' b):DA B H F' v x.fr:=by
 have id':∀ b u,F b→H b=some u→H b=some u:=fun _ _ _ q=>q
 cases x with
 | sh d=>exact h.2.mono id' up
 | li ds=>obtain ⟨a,xs,rfl,rfl,_,hh,r⟩:=h; exact .lst ⟨yes a (by simp),hh⟩ (r.mono id' up)
 | lk ds=>obtain ⟨a,xs,rfl,rfl,_,hh,r⟩:=h; exact .lst ⟨yes a (by simp),hh⟩ (r.mono id' up)
 | ll ds=>obtain ⟨a,as,rfl,rfl,_,_,hh,r⟩:=h; exact .lst ⟨yes a (by simp),hh⟩ (r.frozen up fun b hb=>yes b (by simp [hb]))
 | dK ds=>obtain ⟨a,xs,rfl,rfl,_,hh,q,r⟩:=h; exact .dK (yes a (by simp)) hh q (r.mono id' up)
 | dT ds=>obtain ⟨a,xs,rfl,rfl,_,hh,q,r⟩:=h; exact .dT (yes a (by simp)) hh q (r.mono id' up)
 | ob c ds=>obtain ⟨a,dx,xs,rfl,rfl,_,hh,q,r⟩:=h; exact .ins (yes a (by simp)) hh q (r.mono id' up)
 | pu ns=>obtain ⟨a,rfl,rfl,_,hh⟩:=h; exact .lst ⟨yes a (by simp),hh⟩ (das_ints ns)
end
abbrev FSt:=List (Option SV)
structure Rep (B:Bk) (H:Hp) (F:Addr→Prop) (σ:St) (S:FSt) (os:Nat→List Addr):Prop where
 at':∀ i x,S[i]? = some (some x)→∃ v,σ[i]? = some (some v)∧VA B H F v x (os i)
 out:∀ i,(∀ x,S[i]?≠some (some x))→os i=[]
 inj:∀ i j a,a∈os i→a∈os j→i=j
 fd:∀ b,F b→H b≠none
 len:σ.length=S.length
def isT (H:Hp) (b:Addr):Prop:=∃ xs,H b=some (.tup xs)
structure Al (H:Hp) (F:Addr→Prop) (H':Hp) (F':Addr→Prop):Prop where
 same:Same H H'
 up:∀ b,F b→F' b
 new:∀ b,F' b→F b∨(H b=none∧H' b≠none)∨isT H b
theorem Al.refl {H:Hp} {F:Addr→Prop}:Al H F H F:=⟨fun _ _ h=>h,fun _ h=>h,fun _ h=>.inl h⟩
theorem Al.trans {H H1 H2:Hp} {F F1 F2:Addr→Prop} (a:Al H F H1 F1) (b:Al H1 F1 H2 F2):Al H F H2 F2:=by
 refine ⟨fun x o h=>b.same x o (a.same x o h),fun x h=>b.up x (a.up x h),fun x h=>?_⟩
 have old:∀ {u:HO},H1 x=some u→H2 x≠none:=fun {u} e=>by rw [b.same x u e]; simp
 rcases b.new x h with h | ⟨h,h'⟩ | ⟨ys,h⟩
 ·rcases a.new x h with h | ⟨h,h'⟩ | h
  ·exact .inl h
  ·refine .inr (.inl ⟨h,?_⟩)
   cases e:H1 x with
   | none=>exact absurd e h'
   | some o=>exact old e
  ·exact .inr (.inr h)
 ·refine .inr (.inl ⟨?_,h'⟩)
  cases e:H x with
  | none=>rfl
  | some o=>rw [a.same x o e] at h; cases h
 ·cases e:H x with
  | none=>exact .inr (.inl ⟨rfl,old h⟩)
  | some o=>have:=a.same x o e; rw [h] at this; cases this; exact .inr (.inr ⟨ys,e⟩)
def osL (os:Nat→List Addr) (L:List Nat):Addr→Prop:=fun b=>∃ i∈L,b∈os i
def orF (F G:Addr→Prop):Addr→Prop:=fun b=>F b∨G b
section
variable {B:Bk} {H H':Hp} {F F' G:Addr→Prop} {σ:St} {S:FSt} {os:Nat→List Addr} {L:List Nat}
theorem Rep.own (r:Rep B H F σ S os) {i:Nat} {a:Addr} (e:a∈os i):∃ x v,S[i]? = some (some x)∧σ[i]? = some (some v)∧VA B H F v x (os i):=by
 cases q:S[i]? with
 | none=>rw [r.out i (by rw [q]; simp)] at e; simp at e
 | some z=>cases z with
  | none=>rw [r.out i (by rw [q]; simp)] at e; simp at e
  | some x=>obtain ⟨v,h1,h2⟩:=r.at' i x q; exact ⟨x,v,rfl,h1,h2⟩
theorem Rep.alive (r:Rep B H F σ S os) {i:Nat} {a:Addr} (e:a∈os i):H a≠none∧¬ F a:=by
 obtain ⟨x,v,_,_,h⟩:=r.own e
 exact ⟨(h.alive e).1,(h.alive e).2.1⟩
theorem Rep.mono (r:Rep B H F σ S os) (a:Al H F H' F'):Rep B H' F' σ S os:=by
 refine ⟨fun i x h=>?_,r.out,r.inj,fun b h=>?_,r.len⟩
 ·obtain ⟨v,h1,h2⟩:=r.at' i x h
  refine ⟨v,h1,h2.mono (fun b u _ q=>a.same b u q) (fun b u _ q=>a.same b u q) a.up fun b e q=>?_⟩
  have al:=r.alive e
  rcases a.new b q with q | q | ⟨ys,q⟩
  ·exact al.2 q
  ·exact al.1 q.1
  ·obtain ⟨_,_,_,_,va⟩:=r.own e
   exact (va.alive e).2.2 ys q
 ·rcases a.new b h with h | h | ⟨ys,h⟩
  ·cases e:H b with
   | none=>exact absurd e (r.fd b h)
   | some o=>rw [a.same b o e]; simp
  ·exact h.2
  ·rw [a.same b _ h]; simp
theorem Rep.split (r:Rep B H F σ S os) (a:Al H (orF F (osL os L)) H' G):∃ F',Al H F H' F'∧Rep B H' F' σ S os∧(∀ b,G b→orF F' (osL os L) b)∧∀ b,F' b→G b:=by
 have al:Al H F H' (fun b=>G b∧∀ i,b∉os i):=by
  refine ⟨a.same,fun b h=>⟨a.up b (.inl h),fun i e=>(r.alive e).2 h⟩,fun b h=>?_⟩
  rcases a.new b h.1 with q | q
  ·rcases q with q | ⟨i,_,q⟩
   ·exact .inl q
   ·exact absurd q (h.2 i)
  ·exact .inr q
 refine ⟨_,al,r.mono al,fun b h=>?_,fun b h=>h.1⟩
 by_cases q:∀ i,b∉os i
 ·exact .inl ⟨h,q⟩
 ·have ⟨i,e⟩:∃ i,b∈os i:=by
   apply Classical.byContradiction
   intro n
   exact q fun i e=>n ⟨i,e⟩
  rcases a.new b h with z | z | ⟨ys,z⟩
  ·rcases z with z | z
   ·exact absurd z (r.alive e).2
   ·exact .inr z
  ·exact absurd z.1 (r.alive e).1
  ·obtain ⟨_,_,_,_,va⟩:=r.own e
   exact absurd z ((va.alive e).2.2 ys)
end
end L2
namespace L2
open PySem PySem.Spec PyProof.Rows
def FD (B:Bk) (t:TE) (L:List Nat) (m:FSt→Option D):Prop:=
 ∀ (S:FSt) (σ:St) (H:Hp) (F:Addr→Prop) (os:Nat→List Addr) (Q:VK) (d:D),Rep B H F σ S os→m S=some d→
  (∀ v H' F',Al H F H' F'→Rep B H' F' σ S os→DA B H' (orF F' (osL os L)) v d→Q v H')→t σ H Q
def FE (B:Bk) (t:TE) (L:List Nat) (m:FSt→Option SV):Prop:=
 ∀ (S:FSt) (σ:St) (H:Hp) (F:Addr→Prop) (os:Nat→List Addr) (Q:VK) (x:SV),Rep B H F σ S os→m S=some x→
  (∀ v H' F' o,Al H F H' F'→Rep B H' F' σ S os→VA B H' (orF F' (osL os L)) v x o→(∀ a,a∈o→H a=none)→Q v H')→t σ H Q
def FT (B:Bk) (t:TT) (m:FSt→Option Bool):Prop:=
 ∀ (S:FSt) (σ:St) (H:Hp) (F:Addr→Prop) (os:Nat→List Addr) (Q:Bool→Hp→Prop) (c:Bool),Rep B H F σ S os→m S=some c→
  (∀ H' F',Al H F H' F'→Rep B H' F' σ S os→Q c H')→t σ H Q
def FA (B:Bk) (t:TA) (L:List Nat) (m:FSt→Option (List D)):Prop:=
 ∀ (S:FSt) (σ:St) (H:Hp) (F:Addr→Prop) (os:Nat→List Addr) (Q:List V→Hp→Prop) (ds:List D),Rep B H F σ S os→m S=some ds→
  (∀ vs H' F',Al H F H' F'→Rep B H' F' σ S os→DAs B H' (orF F' (osL os L)) vs ds→Q vs H')→t σ H Q
@[simp] def mV (i:Nat):FSt→Option D:=fun S=>(S[i]?.join).map SV.fr
@[simp] def mC (d:D):FSt→Option D:=fun _=>some d
@[simp] def mFr (m:FSt→Option SV):FSt→Option D:=fun S=>(m S).map SV.fr
@[simp] def mSh (m:FSt→Option D):FSt→Option SV:=fun S=>(m S).map SV.sh
@[simp] def m2 {α:Type} (f:D→D→Option α) (a b:FSt→Option D):FSt→Option α:=fun S=>(a S).bind fun x=>(b S).bind fun y=>f x y
@[simp] def m1 {α β:Type} (f:β→Option α) (a:FSt→Option β):FSt→Option α:=fun S=>(a S).bind f
@[simp] def mNil:FSt→Option (List D):=fun _=>some []
@[simp] def mCons (a:FSt→Option D) (r:FSt→Option (List D)):FSt→Option (List D):=fun S=>(a S).bind fun x=>(r S).bind fun xs=>some (x :: xs)
@[simp] def asB:D→Option Bool
 | .bl b=>some b
 | _=>none
@[simp] def mTruth (a:FSt→Option D):FSt→Option Bool:=fun S=>(a S).bind asB
@[simp] def mAnd (a b:FSt→Option Bool):FSt→Option Bool:=fun S=>(a S).bind fun c=>if c=true then b S else some false
@[simp] def mOr (a b:FSt→Option Bool):FSt→Option Bool:=fun S=>(a S).bind fun c=>if c=true then some true else b S
@[simp] def mNot (a:FSt→Option Bool):FSt→Option Bool:=fun S=>(a S).map fun c=>!c
@[simp] def mBl (a:FSt→Option Bool):FSt→Option D:=fun S=>(a S).map D.bl
@[simp] def mIte {α:Type} (c:FSt→Option Bool) (a b:FSt→Option α):FSt→Option α:=fun S=>(c S).bind fun x=>if x=true then a S else b S
@[simp] def mAlt {α:Type} (a b:FSt→Option α):FSt→Option α:=fun S=>(a S).orElse fun _=>b S
section
variable {B:Bk} {ta tb tc:TE} {La Lb Lc L:List Nat} {ma mb mc:FSt→Option D} {t u:TT} {mt mu:FSt→Option Bool} {tr:TA} {mr:FSt→Option (List D)} {me me':FSt→Option SV}
theorem orF_sub {F F':Addr→Prop} {os:Nat→List Addr} {L L':List Nat} (h1:∀ b,F b→F' b) (h2:∀ i,i∈L→i∈L'):∀ b,orF F (osL os L) b→orF F' (osL os L') b:=fun b h=>by
 rcases h with h | ⟨i,h,e⟩
 ·exact .inl (h1 b h)
 ·exact .inr ⟨i,h2 i h,e⟩
theorem DA.later {H H':Hp} {F F':Addr→Prop} {os:Nat→List Addr} {L L':List Nat} {v:V} {d:D} (h:DA B H (orF F (osL os L)) v d) (a:Al H F H' F') (hl:∀ i,i∈L→i∈L'):DA B H' (orF F' (osL os L')) v d:=
 h.mono (fun b o _ e=>a.same b o e) (orF_sub a.up hl)
theorem FD.fe (h:FD B ta L ma):FE B ta L (mSh ma):=by
 intro S σ H F os Q x r e k
 unfold mSh at e
 cases q:ma S with
 | none=>rw [q] at e; cases e
 | some d=>
  rw [q] at e; cases e
  exact h S σ H F os Q d r q fun v H' F' a r' da=>k v H' F' [] a r' ⟨rfl,da⟩ (by simp)
theorem FE.fd (h:FE B ta L me):FD B ta L (mFr me):=by
 intro S σ H F os Q d r e k
 unfold mFr at e
 cases q:me S with
 | none=>rw [q] at e; cases e
 | some x=>
  rw [q] at e; cases e
  refine h S σ H F os Q x r q fun v H' F' o a r' va fr=>?_
  have al:Al H F H' (fun b=>F' b∨b∈o):=by
   refine ⟨a.same,fun b h=>.inl (a.up b h),fun b h=>?_⟩
   rcases h with h | h
   ·exact a.new b h
   ·exact .inr (.inl ⟨fr b h,(va.alive h).1⟩)
  refine k v H' _ al (r.mono al) (va.frozen (fun b h=>?_) fun b h=>.inl (.inr h))
  rcases h with h | h
  ·exact .inl (.inl h)
  ·exact .inr h
theorem fd_var (i:Nat):FD B (tVar i) [i] (mV i):=by
 intro S σ H F os Q d r e k
 unfold mV at e
 cases q:S[i]? with
 | none=>rw [q] at e; cases e
 | some z=>cases z with
  | none=>rw [q] at e; cases e
  | some x=>
   rw [q] at e; cases e
   obtain ⟨v,h1,h2⟩:=r.at' i x q
   exact ⟨v,h1,k v H F Al.refl r (h2.frozen (fun b h=>.inl h) fun b h=>.inr ⟨i,by simp,h⟩)⟩
inductive Sc:V→D→Prop
 | non:Sc .non .non
 | bl (b:Bool):Sc (.bl b) (.bl b)
 | int (i:Int):Sc (.int i) (.int i)
 | str (x:Str):Sc (.str x) (.str x)
 | ty (n:String):Sc (.ty n) (.ty n)
 | adr (a:Addr):Sc (.ref a) (.adr a)
theorem Sc.da {H:Hp} {F:Addr→Prop} {v:V} {d:D} (h:Sc v d):DA B H F v d:=by cases h <;> constructor
theorem fd_C {v:V} {d:D} (h:Sc v d):FD B (tC v) [] (mC d):=by
 intro S σ H F os Q d' r e k
 cases e
 exact k v H F Al.refl r h.da
theorem fd_and2 {R:V→V→Hp→VK→Prop} (ha:FD B ta La ma) (hb:FD B tb Lb mb) {S:FSt} {σ:St} {H:Hp} {F:Addr→Prop} {os:Nat→List Addr} {Q:VK} {da db:D} (r:Rep B H F σ S os) (ea:ma S=some da) (eb:mb S=some db)
  (k:∀ v w H' F',Al H F H' F'→Rep B H' F' σ S os→DA B H' (orF F' (osL os (La++Lb))) v da→DA B H' (orF F' (osL os (La++Lb))) w db→R v w H' Q):ta σ H fun x H1=>tb σ H1 fun y H2=>R x y H2 Q:=by
 refine ha S σ H F os _ da r ea fun v H1 F1 a1 r1 d1=>hb S σ H1 F1 os _ db r1 eb fun w H2 F2 a2 r2 d2=>?_
 exact k v w H2 F2 (a1.trans a2) r2 (d1.later a2 fun i h=>List.mem_append_left _ h) (d2.later Al.refl fun i h=>List.mem_append_right _ h)
def OpD (B:Bk) (r:R2) (f:D→D→Option D):Prop:=∀ (H:Hp) (G:Addr→Prop) (x y:V) (dx dy z:D) (Q:VK),DA B H G x dx→DA B H G y dy→f dx dy=some z→
 (∀ v H' G',Al H G H' G'→DA B H' G' v z→Q v H')→r x y H Q
def OpE (B:Bk) (r:R2) (f:D→D→Option SV):Prop:=∀ (H:Hp) (G:Addr→Prop) (x y:V) (dx dy:D) (z:SV) (Q:VK),(∀ b,G b→H b≠none)→DA B H G x dx→DA B H G y dy→f dx dy=some z→
 (∀ v H' G' o,Al H G H' G'→VA B H' G' v z o→(∀ a,a∈o→H a=none)→Q v H')→r x y H Q
theorem Rep.gd {H:Hp} {F:Addr→Prop} {σ:St} {S:FSt} {os:Nat→List Addr} (r:Rep B H F σ S os) (L:List Nat):∀ b,orF F (osL os L) b→H b≠none:=fun b h=>by
 rcases h with h | ⟨i,_,e⟩
 ·exact r.fd b h
 ·exact (r.alive e).1
theorem bind2 {α β γ:Type} {a:Option α} {b:Option β} {f:α→β→Option γ} {z:γ} (h:(a.bind fun x=>b.bind fun y=>f x y)=some z):∃ x y,a=some x∧b=some y∧f x y=some z:=by
 cases a with
 | none=>cases h
 | some x=>cases b with
  | none=>cases h
  | some y=>exact ⟨x,y,rfl,rfl,h⟩
theorem bind1 {α γ:Type} {a:Option α} {f:α→Option γ} {z:γ} (h:a.bind f=some z):∃ x,a=some x∧f x=some z:=by
 cases a with
 | none=>cases h
 | some x=>exact ⟨x,rfl,h⟩
theorem fd_op {r:R2} {f:D→D→Option D} (ho:OpD B r f) (ha:FD B ta La ma) (hb:FD B tb Lb mb):FD B (tOp r ta tb) (La++Lb) (m2 f ma mb):=by
 intro S σ H F os Q z rp e k
 obtain ⟨da,db,ea,eb,ef⟩:=bind2 e
 refine fd_and2 (R:=r) ha hb rp ea eb fun v w H' F' a r' d1 d2=>?_
 refine ho H' _ v w da db z Q d1 d2 ef fun u H2 G2 a2 dz=>?_
 obtain ⟨F2,al,r2,q,_⟩:=r'.split a2
 exact k u H2 F2 (a.trans al) r2 (dz.mono (fun _ _ _ e=>e) q)
theorem VA.sub {H:Hp} {G F:Addr→Prop} {v:V} {x:SV} {o:List Addr} (h:VA B H G v x o) (q:∀ b,G b→F b) (no:∀ b,b∈o→¬ F b):VA B H F v x o:=h.mono (fun _ _ _ e=>e) (fun _ _ _ e=>e) q no
theorem ve_split {H H':Hp} {F G:Addr→Prop} {σ:St} {S:FSt} {os:Nat→List Addr} {L:List Nat} {v:V} {z:SV} {o:List Addr} (r:Rep B H F σ S os) (a:Al H (orF F (osL os L)) H' G) (va:VA B H' G v z o) (fr:∀ b,b∈o→H b=none) :
  ∃ F',Al H F H' F'∧Rep B H' F' σ S os∧VA B H' (orF F' (osL os L)) v z o:=by
 obtain ⟨F2,al,r2,q,q'⟩:=r.split a
 refine ⟨F2,al,r2,va.sub q fun b e z=>?_⟩
 rcases z with z | ⟨i,_,z⟩
 ·exact (va.alive e).2.1 (q' b z)
 ·exact (r.alive z).1 (fr b e)
theorem fe_op {r:R2} {f:D→D→Option SV} (ho:OpE B r f) (ha:FD B ta La ma) (hb:FD B tb Lb mb):FE B (tOp r ta tb) (La++Lb) (m2 f ma mb):=by
 intro S σ H F os Q z rp e k
 obtain ⟨da,db,ea,eb,ef⟩:=bind2 e
 refine fd_and2 (R:=r) ha hb rp ea eb fun v w H' F' a r' d1 d2=>?_
 refine ho H' _ v w da db z Q (r'.gd _) d1 d2 ef fun u H2 G2 o a2 va fr=>?_
 obtain ⟨F2,al,r2,va2⟩:=ve_split r' a2 va fr
 refine k u H2 F2 o (a.trans al) r2 va2 fun b e=>?_
 cases q:H b with
 | none=>rfl
 | some w=>have:=fr b e; rw [a.same b w q] at this; cases this
def UnD (B:Bk) (r:V→Hp→VK→Prop) (f:D→Option D):Prop:=∀ (H:Hp) (G:Addr→Prop) (x:V) (dx z:D) (Q:VK),DA B H G x dx→f dx=some z→(∀ v H' G',Al H G H' G'→DA B H' G' v z→Q v H')→r x H Q
theorem fd_un {r:V→Hp→VK→Prop} {f:D→Option D} (ho:UnD B r f) (ha:FD B ta L ma):FD B (tUn r ta) L (m1 f ma):=by
 intro S σ H F os Q z rp e k
 obtain ⟨da,ea,ef⟩:=bind1 e
 refine ha S σ H F os _ da rp ea fun v H' F' a r' d1=>ho H' _ v da z Q d1 ef fun u H2 G2 a2 dz=>?_
 obtain ⟨F2,al,r2,q,_⟩:=r'.split a2
 exact k u H2 F2 (a.trans al) r2 (dz.mono (fun _ _ _ e=>e) q)
theorem ft_of (h:FD B ta L ma):FT B (tTest ta) (mTruth ma):=by
 intro S σ H F os Q c rp e k
 obtain ⟨d,ed,ef⟩:=bind1 e
 refine h S σ H F os _ d rp ed fun v H' F' a r' d1=>?_
 cases d with
 | bl b=>cases ef; cases d1; exact ⟨_,rfl,k H' F' a r'⟩
 | _=>cases ef
theorem ft_val (h:FD B ta L ma):FT B (tB ta) (mTruth ma):=ft_of h
theorem ft_and (h1:FT B t mt) (h2:FT B u mu):FT B (tAnd t u) (mAnd mt mu):=by
 intro S σ H F os Q c rp e k
 obtain ⟨b,eb,ef⟩:=bind1 e
 refine h1 S σ H F os _ b rp eb fun H' F' a r'=>?_
 cases b with
 | true=>rw [if_pos rfl] at ef ⊢; exact h2 S σ H' F' os Q c r' ef fun H2 F2 a2 r2=>k H2 F2 (a.trans a2) r2
 | false=>rw [if_neg Bool.false_ne_true] at ef ⊢; cases ef; exact k H' F' a r'
theorem ft_or (h1:FT B t mt) (h2:FT B u mu):FT B (tOr t u) (mOr mt mu):=by
 intro S σ H F os Q c rp e k
 obtain ⟨b,eb,ef⟩:=bind1 e
 refine h1 S σ H F os _ b rp eb fun H' F' a r'=>?_
 cases b with
 | true=>rw [if_pos rfl] at ef ⊢; cases ef; exact k H' F' a r'
 | false=>rw [if_neg Bool.false_ne_true] at ef ⊢; exact h2 S σ H' F' os Q c r' ef fun H2 F2 a2 r2=>k H2 F2 (a.trans a2) r2
theorem ft_not (h1:FT B t mt):FT B (tNot t) (mNot mt):=by
 intro S σ H F os Q c rp e k
 unfold mNot at e
 cases q:mt S with
 | none=>rw [q] at e; cases e
 | some b=>rw [q] at e; cases e; exact h1 S σ H F os _ b rp q fun H' F' a r'=>k H' F' a r'
theorem fd_andV (ha:FD B ta La ma) (hb:FD B tb Lb mb):FD B (tAndV ta tb) (La++Lb) (mIte (mTruth ma) mb (mC (.bl false))):=by
 intro S σ H F os Q z rp e k
 obtain ⟨c,ec,ef⟩:=bind1 e
 obtain ⟨d,ed,ec⟩:=bind1 ec
 refine ha S σ H F os _ d rp ed fun v H' F' a r' d1=>?_
 cases d with
 | bl b=>
  cases ec; cases d1
  refine ⟨_,rfl,?_⟩
  cases c with
  | true=>rw [if_pos rfl] at ef ⊢; exact hb S σ H' F' os Q z r' ef fun v H2 F2 a2 r2 d2=>k v H2 F2 (a.trans a2) r2 (d2.later Al.refl fun i h=>List.mem_append_right _ h)
  | false=>rw [if_neg Bool.false_ne_true] at ef ⊢; cases ef; exact k _ H' F' a r' (.bl false)
 | _=>cases ec
theorem fd_notV (ha:FD B ta La ma):FD B (tNotV ta) La (mBl (mNot (mTruth ma))):=by
 intro S σ H F os Q z rp e k
 unfold mBl mNot mTruth at e
 cases q:ma S with
 | none=>rw [q] at e; cases e
 | some d=>
  rw [q] at e
  refine ha S σ H F os _ d rp q fun v H' F' a r' d1=>?_
  cases d with
  | bl b=>cases e; cases d1; exact ⟨_,rfl,k _ H' F' a r' (.bl _)⟩
  | _=>cases e
theorem fa_nil:FA B tNil [] mNil:=by
 intro S σ H F os Q ds rp e k
 cases e
 exact k [] H F Al.refl rp .nil
theorem DAs.later {H H':Hp} {F F':Addr→Prop} {os:Nat→List Addr} {L L':List Nat} {v:List V} {d:List D} (h:DAs B H (orF F (osL os L)) v d) (a:Al H F H' F') (hl:∀ i,i∈L→i∈L'):DAs B H' (orF F' (osL os L')) v d:=
 h.mono (fun b o _ e=>a.same b o e) (orF_sub a.up hl)
theorem fa_cons (ha:FD B ta La ma) (hr:FA B tr Lb mr):FA B (tCons ta tr) (La++Lb) (mCons ma mr):=by
 intro S σ H F os Q ds rp e k
 obtain ⟨d,es,ed,ee,ef⟩:=bind2 e
 cases ef
 refine ha S σ H F os _ d rp ed fun v H1 F1 a1 r1 d1=>hr S σ H1 F1 os _ es r1 ee fun vs H2 F2 a2 r2 d2=>?_
 exact k (v :: vs) H2 F2 (a1.trans a2) r2 (.cons (d1.later a2 fun i h=>List.mem_append_left _ h) (d2.later Al.refl fun i h=>List.mem_append_right _ h))
theorem same_upd {H:Hp} {p:Addr} {u:HO} (h:H p=none):Same H (upd H p u):=fun b o e=>by rw [upd_ne (ne_of_none e h)]; exact e
theorem al_fresh {H:Hp} {F:Addr→Prop} {p:Addr} {u:HO} (h:H p=none):Al H F (upd H p u) F:=⟨same_upd h,fun _ q=>q,fun _ q=>.inl q⟩
theorem al_fresh' {H:Hp} {F:Addr→Prop} {p:Addr} {u:HO} (h:H p=none):Al H F (upd H p u) (fun b=>F b∨b=p):=by
 refine ⟨same_upd h,fun _ q=>.inl q,fun b q=>?_⟩
 rcases q with q | rfl
 ·exact .inl q
 ·exact .inr (.inl ⟨h,by rw [upd_same]; simp⟩)
@[simp] def mLst (m:FSt→Option (List D)):FSt→Option SV:=fun S=>(m S).bind fun ds=>if ds.length≤sizeLine then some (.li ds) else none
@[simp] def mTup (m:FSt→Option (List D)):FSt→Option D:=fun S=>(m S).bind fun ds=>if ds.length≤sizeLine then some (.tup ds) else none
theorem fe_lst (hr:FA B tr L mr):FE B (tLst tr) L (mLst mr):=by
 intro S σ H F os Q x rp e k
 obtain ⟨ds,ed,ef⟩:=bind1 e
 by_cases hl:ds.length≤sizeLine
 ·rw [if_pos hl] at ef; cases ef
  refine hr S σ H F os _ ds rp ed fun vs H1 F1 a1 r1 d1=>⟨by rw [d1.length]; exact hl,fun p hp=>?_⟩
  have al:=al_fresh (F:=F1) (u:=.lst vs) hp
  refine k (.ref p) _ F1 [p] (a1.trans al) (r1.mono al) ⟨p,vs,rfl,rfl,fun q=>?_,upd_same,d1.mono (fun b o _ e=>al.same b o e) fun _ h=>h⟩ fun a e=>?_
  ·exact r1.gd L p q hp
  ·obtain rfl:=List.mem_singleton.mp e
   cases q:H a with
   | none=>rfl
   | some w=>have:=a1.same a w q; rw [hp] at this; cases this
 ·rw [if_neg hl] at ef; cases ef
theorem fd_tup (hr:FA B tr L mr):FD B (tTup tr) L (mTup mr):=by
 intro S σ H F os Q x rp e k
 obtain ⟨ds,ed,ef⟩:=bind1 e
 by_cases hl:ds.length≤sizeLine
 ·rw [if_pos hl] at ef; cases ef
  refine hr S σ H F os _ ds rp ed fun vs H1 F1 a1 r1 d1=>⟨by rw [d1.length]; exact hl,fun p hp=>?_⟩
  have al:=al_fresh' (F:=F1) (u:=.tup vs) hp
  refine k (.ref p) _ _ (a1.trans al) (r1.mono al) (.tup ⟨.inl (.inr rfl),upd_same⟩ (d1.mono (fun b o _ e=>al.same b o e) fun b h=>?_))
  rcases h with h | h
  ·exact .inl (.inl h)
  ·exact .inr h
 ·rw [if_neg hl] at ef; cases ef
def CallE (B:Bk) (r:List V→Hp→VK→Prop) (f:List D→Option SV):Prop:=∀ (H:Hp) (G:Addr→Prop) (vs:List V) (ds:List D) (z:SV) (Q:VK),(∀ b,G b→H b≠none)→DAs B H G vs ds→f ds=some z→
 (∀ v H' G' o,Al H G H' G'→VA B H' G' v z o→(∀ a,a∈o→H a=none)→Q v H')→r vs H Q
theorem fe_callR {r:List V→Hp→VK→Prop} {f:List D→Option SV} {tx:TE} (htx:∀ σ H Q,(tr σ H fun vs H1=>r vs H1 Q)→tx σ H Q) (ho:CallE B r f) (hr:FA B tr L mr):FE B tx L (m1 f mr):=by
 intro S σ H F os Q z rp e k
 obtain ⟨ds,ed,ef⟩:=bind1 e
 refine htx σ H Q (hr S σ H F os _ ds rp ed fun vs H1 F1 a1 r1 d1=>ho H1 _ vs ds z Q (r1.gd _) d1 ef fun u H2 G2 o a2 va fr=>?_)
 obtain ⟨F2,al,r2,va2⟩:=ve_split r1 a2 va fr
 refine k u H2 F2 o (a1.trans al) r2 va2 fun b e=>?_
 cases q:H b with
 | none=>rfl
 | some w=>have:=fr b e; rw [a1.same b w q] at this; cases this
theorem fe_CB {r:List V→Hp→VK→Prop} {f:List D→Option SV} (ho:CallE B r f) (hr:FA B tr L mr):FE B (tCB r tr) L (m1 f mr):=fe_callR (fun _ _ _ h=>h) ho hr
def SpF (B:Bk) (n:Nat) (f:List D→Option SV):Sp:=fun vs H Q _=>vs.length=n∧∃ (G:Addr→Prop) (ds:List D) (z:SV),(∀ b,G b→H b≠none)∧DAs B H G vs ds∧f ds=some z∧
 ∀ v H' G' o,Al H G H' G'→VA B H' G' v z o→(∀ a,a∈o→H a=none)→Q v H'
theorem fe_call {n:Nat} {f:List D→Option SV} {E:XK} (hf:∀ ds z,f ds=some z→ds.length=n) (hr:FA B tr L mr):FE B (tCall (SpF B n f) [] E tr) L (m1 f mr):=by
 refine fe_callR (r:=fun vs H Q=>SpF B n f (vs++[]) H Q E) (fun _ _ _ h=>h) ?_ hr
 intro H G vs ds z Q hg hd hz k
 rw [List.append_nil]
 exact ⟨by rw [hd.length]; exact hf _ _ hz,G,ds,z,hg,hd,hz,k⟩
@[simp] def mMeth (c:Nat) (mn:Str) (f:List D→Option SV) (a:FSt→Option D) (r:FSt→Option (List D)):FSt→Option SV:=fun S=>(a S).bind fun x=>(r S).bind fun ds=>match x with
 | .ins k fs=>if k=c then (if (fs.lookup mn).isNone then f (.ins k fs :: ds) else none) else none
 | _=>none
theorem lookup_rel {fs:List (Str×V)} {ds:List (Str×D)} {H:Hp} {G:Addr→Prop} (e:fs.map (·.1)=ds.map (·.1)) (r:DAs B H G (fs.map (·.2)) (ds.map (·.2))) (f:Str) :
  (∀ d,ds.lookup f=some d→∃ v,fs.lookup f=some v∧DA B H G v d)∧(ds.lookup f=none→fs.lookup f=none):=by
 induction fs generalizing ds with
 | nil=>cases ds with
  | nil=>simp [List.lookup]
  | cons d ds=>simp at e
 | cons p fs ih=>cases ds with
  | nil=>simp at e
  | cons q ds=>
   obtain ⟨p1,p2⟩:=p
   obtain ⟨q1,q2⟩:=q
   simp only [List.map_cons,List.cons.injEq] at e
   simp only [List.map_cons] at r
   cases r with
   | cons h r=>
    obtain ⟨e1,e2⟩:=e
    subst e1
    have:=ih e2 r
    by_cases hq:(f==p1)=true
    ·simp only [List.lookup,hq]
     exact ⟨fun d z=>by cases z; exact ⟨p2,rfl,h⟩,fun z=>by cases z⟩
    ·have hq':(f==p1)=false:=by simpa using hq
     simp only [List.lookup,hq']
     exact this
theorem fe_meth {c n:Nat} {mn:Str} {f:List D→Option SV} {E:XK} {C:Addr} (hC:B.cl c=C) (hf:∀ ds z,f ds=some z→ds.length=n) (ha:FD B ta La ma) (hr:FA B tr Lb mr):FE B (tMeth C mn (SpF B n f) [] E ta tr) (La++Lb) (mMeth c mn f ma mr):=by
 subst hC
 intro S σ H F os Q z rp e k
 obtain ⟨d,ds,ed,er,ef⟩:=bind2 e
 cases d with
 | ins kc fs=>
  by_cases hk:kc=c
  ·subst hk
   simp only [if_pos rfl] at ef
   cases hl:fs.lookup mn with
   | some _=>rw [hl] at ef; cases ef
   | none=>
    rw [hl] at ef
    have ef:f (.ins kc fs :: ds)=some z:=ef
    refine ha S σ H F os _ _ rp ed fun v H1 F1 a1 r1 d1=>?_
    cases d1 with
    | @ins a dx c' vs ds' fa hh he rr=>
     refine ⟨a,dx,vs,rfl,hh,(lookup_rel he rr mn).2 hl,hr S σ H1 F1 os _ ds r1 er fun ws H2 F2 a2 r2 d2=>?_⟩
     have da:DA B H1 (orF F1 (osL os La)) (.ref a) (.ins kc fs):=.ins fa hh he rr
     have das:DAs B H2 (orF F2 (osL os (La++Lb))) (.ref a :: (ws++[])) (.ins kc fs :: ds):=by
      rw [List.append_nil]
      exact .cons (da.later a2 fun i h=>List.mem_append_left _ h) (d2.later Al.refl fun i h=>List.mem_append_right _ h)
     refine ⟨by rw [das.length]; exact hf _ _ ef,_,_,z,r2.gd _,das,ef,fun u H3 G3 o a3 va fr=>?_⟩
     obtain ⟨F3,al,r3,va2⟩:=ve_split r2 a3 va fr
     refine k u H3 F3 o ((a1.trans a2).trans al) r3 va2 fun b e=>?_
     cases q:H b with
     | none=>rfl
     | some w=>have:=fr b e; rw [(a1.trans a2).same b w q] at this; cases this
  ·simp only [if_neg hk] at ef; cases ef
 | _=>cases ef
@[simp] def fFld (cs:List Nat) (f:Str):D→Option D
 | .ins c fs=>if c∈cs then fs.lookup f else none
 | _=>none
end
end L2
namespace L2
open PySem PySem.Spec PyProof.Rows
mutual
@[simp] def D.plain:D→Bool
 | .tup xs=>D.plains xs
 | .kt xs=>D.plains xs
 | .fz _=>false
 | .lst _=>false
 | .dK _=>false
 | .dT _=>false
 | .dZ _=>false
 | .ins _ _=>false
 | _=>true
@[simp] def D.plains:List D→Bool
 | []=>true
 | d :: r=>d.plain&&D.plains r
end
@[simp] def SV.plain:SV→Bool
 | .sh d=>d.plain
 | .li xs=>D.plains xs
 | .lk _=>false
 | .ll xss=>xss.all D.plains
 | .dK kvs=>D.plains (kvs.map (·.2))
 | .dT kvs=>D.plains (kvs.map (·.2))
 | .ob _ fs=>D.plains (fs.map (·.2))
 | .pu _=>false
section
variable {B:Bk} {H H':Hp} {F F':Addr→Prop} {σ:St} {S:FSt} {os:Nat→List Addr} {L:List Nat}
mutual
theorem DA.toF (r:Rep B H F σ S os):∀ {v:V} {d:D},DA B H (orF F (osL os L)) v d→d.plain=true→DA B H F v d
 | _,_,.non,_=>.non
 | _,_,.bl b,_=>.bl b
 | _,_,.int i,_=>.int i
 | _,_,.str x,_=>.str x
 | _,_,.ty n,_=>.ty n
 | _,_,.adr a,_=>.adr a
 | _,_,.cls c,_=>.cls c
 | _,_,.tup h q,p=>by
  refine .tup ?_ (DAs.toF r q (by simpa [D.plain] using p))
  obtain ⟨h | ⟨i,_,e⟩,h'⟩:=h
  ·exact ⟨h,h'⟩
  ·obtain ⟨x,v,_,_,va⟩:=r.own e
   exact absurd h' ((va.alive e).2.2 _)
 | _,_,.kt h q,p=>.kt h (DAs.toF r q (by simpa [D.plain] using p))
 | _,_,.fz _ _,p=>by simp [D.plain] at p
 | _,_,.lst _ _,p=>by simp [D.plain] at p
 | _,_,.dK _ _ _ _,p=>by simp [D.plain] at p
 | _,_,.dT _ _ _ _,p=>by simp [D.plain] at p
 | _,_,.dZ _ _ _ _,p=>by simp [D.plain] at p
 | _,_,.ins _ _ _ _,p=>by simp [D.plain] at p
theorem DAs.toF (r:Rep B H F σ S os):∀ {vs:List V} {ds:List D},DAs B H (orF F (osL os L)) vs ds→D.plains ds=true→DAs B H F vs ds
 | _,_,.nil,_=>.nil
 | _,_,.cons h q,p=>by
  simp only [D.plains,Bool.and_eq_true] at p
  exact .cons (DA.toF r h p.1) (DAs.toF r q p.2)
end
theorem VA.toF (r:Rep B H F σ S os) {v:V} {x:SV} {o:List Addr} (h:VA B H (orF F (osL os L)) v x o) (p:x.plain=true):VA B H F v x o:=by
 cases x with
 | sh d=>exact ⟨h.1,h.2.toF r p⟩
 | li ds=>obtain ⟨a,xs,e,eo,nf,hh,q⟩:=h; exact ⟨a,xs,e,eo,fun z=>nf (.inl z),hh,q.toF r p⟩
 | lk ds=>cases p
 | ll ds=>
  obtain ⟨a,as,e,eo,nd,nf,hh,q⟩:=h
  refine ⟨a,as,e,eo,nd,fun b hb z=>nf b hb (.inl z),hh,?_⟩
  clear nd nf hh e eo
  induction q with
  | nil=>exact .nil
  | cons h q _ ih=>
   simp only [SV.plain,List.all_cons,Bool.and_eq_true] at p
   exact .cons h (q.toF r p.1) (ih p.2)
 | dK ds=>obtain ⟨a,xs,e,eo,nf,hh,e2,q⟩:=h; exact ⟨a,xs,e,eo,fun z=>nf (.inl z),hh,e2,q.toF r p⟩
 | dT ds=>obtain ⟨a,xs,e,eo,nf,hh,e2,q⟩:=h; exact ⟨a,xs,e,eo,fun z=>nf (.inl z),hh,e2,q.toF r p⟩
 | ob c ds=>obtain ⟨a,dx,xs,e,eo,nf,hh,e2,q⟩:=h; exact ⟨a,dx,xs,e,eo,fun z=>nf (.inl z),hh,e2,q.toF r p⟩
 | pu ns=>cases p
end
@[simp] def frz1 (S:FSt) (i:Nat):FSt:=match S[i]? with
 | some (some (.sh _))=>S
 | some (some x)=>S.set i (some (.sh x.fr))
 | _=>S
@[simp] def frzs:List Nat→FSt→FSt
 | [],S=>S
 | i :: L,S=>frzs L (frz1 S i)
theorem frz1_get (S:FSt) (i j:Nat):(frz1 S i)[j]? = if j=i then (S[j]?).map (Option.map fun x=>.sh x.fr) else S[j]?:=by
 unfold frz1
 split
 ·rename_i d e
  by_cases h:j=i
  ·subst h; rw [if_pos rfl,e]; rfl
  ·rw [if_neg h]
 ·rename_i x _ e
  by_cases h:j=i
  ·subst h
   rw [if_pos rfl,e]
   have:j < S.length:=(List.getElem?_eq_some_iff.mp e).1
   simp [List.getElem?_set,this]
  ·rw [if_neg h]
   simp [List.getElem?_set,Ne.symm h]
 ·rename_i h1 h2
  by_cases h:j=i
  ·subst h
   rw [if_pos rfl]
   cases q:S[j]? with
   | none=>rfl
   | some z=>cases z with
    | none=>rfl
    | some x=>exact absurd q (h2 x)
  ·rw [if_neg h]
theorem frzs_get:∀ (L:List Nat) (S:FSt) (j:Nat),(frzs L S)[j]? = if j∈L then (S[j]?).map (Option.map fun x=>.sh x.fr) else S[j]?
 | [],S,j=>by simp [frzs]
 | i :: L,S,j=>by
  rw [frzs,frzs_get L,frz1_get]
  by_cases h:j=i
  ·subst h
   simp only [if_pos rfl,List.mem_cons,true_or,if_true]
   split
   ·cases S[j]? with
    | none=>rfl
    | some z=>cases z <;> rfl
   ·rfl
  ·simp [h]
theorem frz1_len (S:FSt) (i:Nat):(frz1 S i).length=S.length:=by
 unfold frz1
 split <;> simp
theorem frzs_len:∀ (L:List Nat) (S:FSt),(frzs L S).length=S.length
 | [],_=>rfl
 | i :: L,S=>by rw [frzs,frzs_len L,frz1_len]
def lkO:Option SV→Bool
 | some (.lk _)=>true
 | some (.ob _ _)=>true
 | some (.pu _)=>true
 | _=>false
@[simp] def isLk (S:FSt) (i:Nat):Bool:=lkO (S[i]?.join)
@[simp] theorem lkO_none:lkO none=false:=rfl
@[simp] theorem lkO_sh (d:D):lkO (some (.sh d))=false:=rfl
@[simp] theorem lkO_li (d:List D):lkO (some (.li d))=false:=rfl
@[simp] theorem lkO_ll (d:List (List D)):lkO (some (.ll d))=false:=rfl
@[simp] theorem lkO_dK (d:List (Key×D)):lkO (some (.dK d))=false:=rfl
@[simp] theorem lkO_dT (d:List (List Key×D)):lkO (some (.dT d))=false:=rfl
@[simp] theorem lkO_lk (d:List D):lkO (some (.lk d))=true:=rfl
@[simp] theorem lkO_ob (c:Nat) (d:List (Str×D)):lkO (some (.ob c d))=true:=rfl
@[simp] theorem lkO_pu (d:List Int):lkO (some (.pu d))=true:=rfl
@[simp] theorem lkO_map (x:Option D):lkO (x.map SV.sh)=false:=by cases x <;> rfl
section
variable {B:Bk} {H H':Hp} {F F':Addr→Prop} {σ:St} {S:FSt} {os:Nat→List Addr} {L:List Nat}
theorem Rep.frz (r:Rep B H F σ S os) (L:List Nat):Rep B H (orF F (osL os L)) σ (frzs L S) (fun j=>if j∈L then [] else os j):=by
 refine ⟨fun i x h=>?_,fun i h=>?_,fun i j a e1 e2=>?_,r.gd L,by rw [frzs_len]; exact r.len⟩
 ·rw [frzs_get] at h
  by_cases q:i∈L
  ·rw [if_pos q] at h
   rw [if_pos q]
   cases e:S[i]? with
   | none=>rw [e] at h; cases h
   | some z=>cases z with
    | none=>rw [e] at h; cases h
    | some y=>
     rw [e] at h; cases h
     obtain ⟨v,h1,h2⟩:=r.at' i y e
     exact ⟨v,h1,rfl,h2.frozen (fun b z=>.inl z) fun b z=>.inr ⟨i,q,z⟩⟩
  ·rw [if_neg q] at h
   rw [if_neg q]
   obtain ⟨v,h1,h2⟩:=r.at' i x h
   refine ⟨v,h1,h2.sub (fun b z=>.inl z) fun b e z=>?_⟩
   rcases z with z | ⟨j,hj,z⟩
   ·exact (r.alive e).2 z
   ·exact q (r.inj i j b e z▸hj)
 ·show (if i∈L then [] else os i)=[]
  by_cases q:i∈L
  ·rw [if_pos q]
  ·rw [if_neg q]
   refine r.out i fun x e=>h x ?_
   rw [frzs_get,if_neg q]; exact e
 ·have e1:a∈(if i∈L then [] else os i):=e1
  have e2:a∈(if j∈L then [] else os j):=e2
  split at e1
  ·simp at e1
  ·split at e2
   ·simp at e2
   ·exact r.inj i j a e1 e2
theorem Rep.set (r:Rep B H F σ S os) {i:Nat} {v:V} {x:SV} {o:List Addr} (va:VA B H F v x o) (no:∀ b,b∈o→∀ j,j≠i→b∉os j) (hi:i < S.length) :
  Rep B H F (σ.set i (some v)) (S.set i (some x)) (fun j=>if j=i then o else os j):=by
 refine ⟨fun j y h=>?_,fun j h=>?_,fun j k a e1 e2=>?_,r.fd,by simp [r.len]⟩
 ·by_cases q:j=i
  ·subst q
   simp only [List.getElem?_set,if_pos rfl,hi,if_true] at h
   cases h
   have hs:j < σ.length:=by rw [r.len]; exact hi
   exact ⟨v,by simp [List.getElem?_set,hs],by rw [if_pos rfl]; exact va⟩
  ·simp only [List.getElem?_set,if_neg (Ne.symm q)] at h
   obtain ⟨w,h1,h2⟩:=r.at' j y h
   exact ⟨w,by simp only [List.getElem?_set,if_neg (Ne.symm q)]; exact h1,by rw [if_neg q]; exact h2⟩
 ·by_cases q:j=i
  ·subst q
   exact absurd (by simp [List.getElem?_set,hi]) (h x)
  ·show (if j=i then o else os j)=[]
   rw [if_neg q]
   refine r.out j fun y e=>h y ?_
   simp only [List.getElem?_set,if_neg (Ne.symm q)]; exact e
 ·have e1:a∈(if j=i then o else os j):=e1
  have e2:a∈(if k=i then o else os k):=e2
  by_cases q1:j=i
  ·by_cases q2:k=i
   ·rw [q1,q2]
   ·rw [if_pos q1] at e1; rw [if_neg q2] at e2; exact absurd e2 (no a e1 k q2)
  ·by_cases q2:k=i
   ·rw [if_neg q1] at e1; rw [if_pos q2] at e2; exact absurd e1 (no a e2 j q1)
   ·rw [if_neg q1] at e1; rw [if_neg q2] at e2; exact r.inj j k a e1 e2
end
inductive Fl where
 | nx (S:FSt) | rt (x:SV) | bk (S:FSt) | ct (S:FSt) | bad
structure FStep (σ:St) (S:FSt) (H:Hp) (F:Addr→Prop) (os:Nat→List Addr) (σ':St) (S':FSt) (H':Hp) (F':Addr→Prop) (os':Nat→List Addr):Prop where
 keep:∀ b o,H b=some o→(∀ i,b∉os i)→H' b=some o
 liv:∀ b,H b≠none→H' b≠none
 up:∀ b,F b→F' b
 new:∀ b,F' b→F b∨H b=none∨(∃ i,b∈os i)∨isT H b
 own:∀ i b,b∈os' i→H b=none∨∃ j,b∈os j
 lok:∀ (i:Nat) (xs:List D),S[i]? = some (some (SV.lk xs))→S'[i]? = some (some (SV.lk xs))∧σ'[i]? = σ[i]?
 lob:∀ (i c:Nat) (fs:List (Str×D)),S[i]? = some (some (SV.ob c fs))→(∃ fs',S'[i]? = some (some (SV.ob c fs')))∧σ'[i]? = σ[i]?
 lpu:∀ (i:Nat) (xs:List Int),S[i]? = some (some (SV.pu xs))→(∃ xs',S'[i]? = some (some (SV.pu xs')))∧σ'[i]? = σ[i]?
structure FStepR (H:Hp) (F:Addr→Prop) (os:Nat→List Addr) (H':Hp) (F':Addr→Prop) (o:List Addr):Prop where
 keep:∀ b u,H b=some u→(∀ i,b∉os i)→H' b=some u
 up:∀ b,F b→F' b
 new:∀ b,F' b→F b∨H b=none∨(∃ i,b∈os i)∨isT H b
 own:∀ b,b∈o→H b=none∨∃ j,b∈os j
 fd:∀ b,F' b→H' b≠none
section
variable {σ σ1 σ2:St} {S S1 S2:FSt} {H H1 H2:Hp} {F F1 F2:Addr→Prop} {os os1 os2:Nat→List Addr} {o:List Addr}
theorem FStep.refl:FStep σ S H F os σ S H F os:=⟨fun _ _ h _=>h,fun _ h=>h,fun _ h=>h,fun _ h=>.inl h,fun i b h=>.inr ⟨i,h⟩,fun i xs h=>⟨h,rfl⟩,fun i c fs h=>⟨⟨fs,h⟩,rfl⟩,fun i xs h=>⟨⟨xs,h⟩,rfl⟩⟩
theorem FStep.outside (a:FStep σ S H F os σ1 S1 H1 F1 os1) {b:Addr} {u:HO} (h:H b=some u) (n:∀ i,b∉os i):∀ i,b∉os1 i:=fun i e=>by
 rcases a.own i b e with q | ⟨j,q⟩
 ·rw [q] at h; cases h
 ·exact n j q
theorem none_back {b:Addr} (l:∀ b,H b≠none→H1 b≠none) (h:H1 b=none):H b=none:=by
 cases e:H b with
 | none=>rfl
 | some u=>exact absurd h (l b (by rw [e]; simp))
theorem FStep.trans (a:FStep σ S H F os σ1 S1 H1 F1 os1) (c:FStep σ1 S1 H1 F1 os1 σ2 S2 H2 F2 os2):FStep σ S H F os σ2 S2 H2 F2 os2:=by
 refine ⟨fun b u h n=>c.keep b u (a.keep b u h n) (a.outside h n),fun b h=>c.liv b (a.liv b h),fun b h=>c.up b (a.up b h),fun b h=>?_,fun i b h=>?_,fun i xs h=>?_,fun i k fs h=>?_,fun i xs h=>?_⟩
 ·rcases c.new b h with q | q | ⟨i,q⟩ | ⟨ys,q⟩
  ·exact a.new b q
  ·exact .inr (.inl (none_back a.liv q))
  ·rcases a.own i b q with q | q
   ·exact .inr (.inl q)
   ·exact .inr (.inr (.inl q))
  ·cases e:H b with
   | none=>exact .inr (.inl rfl)
   | some u=>
    by_cases z:∃ i,b∈os i
    ·exact .inr (.inr (.inl z))
    ·have:=a.keep b u e fun i hi=>z ⟨i,hi⟩
     rw [q] at this; cases this
     exact .inr (.inr (.inr ⟨ys,e⟩))
 ·rcases c.own i b h with q | ⟨j,q⟩
  ·exact .inl (none_back a.liv q)
  ·exact a.own j b q
 ·obtain ⟨h1,h2⟩:=a.lok i xs h
  obtain ⟨h3,h4⟩:=c.lok i xs h1
  exact ⟨h3,h4.trans h2⟩
 ·obtain ⟨⟨fs1,h1⟩,h2⟩:=a.lob i k fs h
  obtain ⟨h3,h4⟩:=c.lob i k fs1 h1
  exact ⟨h3,h4.trans h2⟩
 ·obtain ⟨⟨fs1,h1⟩,h2⟩:=a.lpu i xs h
  obtain ⟨h3,h4⟩:=c.lpu i fs1 h1
  exact ⟨h3,h4.trans h2⟩
theorem FStep.transR (a:FStep σ S H F os σ1 S1 H1 F1 os1) (c:FStepR H1 F1 os1 H2 F2 o):FStepR H F os H2 F2 o:=by
 refine ⟨fun b u h n=>c.keep b u (a.keep b u h n) (a.outside h n),fun b h=>c.up b (a.up b h),fun b h=>?_,fun b h=>?_,c.fd⟩
 ·rcases c.new b h with q | q | ⟨i,q⟩ | ⟨ys,q⟩
  ·exact a.new b q
  ·exact .inr (.inl (none_back a.liv q))
  ·rcases a.own i b q with q | q
   ·exact .inr (.inl q)
   ·exact .inr (.inr (.inl q))
  ·cases e:H b with
   | none=>exact .inr (.inl rfl)
   | some u=>
    by_cases z:∃ i,b∈os i
    ·exact .inr (.inr (.inl z))
    ·have:=a.keep b u e fun i hi=>z ⟨i,hi⟩
     rw [q] at this; cases this
     exact .inr (.inr (.inr ⟨ys,e⟩))
 ·rcases c.own b h with q | ⟨j,q⟩
  ·exact .inl (none_back a.liv q)
  ·exact a.own j b q
theorem Al.step (a:Al H F H1 F1):FStep σ S H F os σ S H1 F1 os:=by
 refine ⟨fun b u h _=>a.same b u h,fun b h=>?_,a.up,fun b h=>?_,fun i b h=>.inr ⟨i,h⟩,fun i xs h=>⟨h,rfl⟩,fun i c fs h=>⟨⟨fs,h⟩,rfl⟩,fun i xs h=>⟨⟨xs,h⟩,rfl⟩⟩
 ·cases e:H b with
  | none=>exact absurd e h
  | some u=>rw [a.same b u e]; simp
 ·rcases a.new b h with q | q | q
  ·exact .inl q
  ·exact .inr (.inl q.1)
  ·exact .inr (.inr (.inr q))
end
def Lands (B:Bk) (σ:St) (S:FSt) (H:Hp) (F:Addr→Prop) (os:Nat→List Addr) (D:Ends):Fl→Prop
 | .nx S'=>∀ σ' H' F' os',FStep σ S H F os σ' S' H' F' os'→Rep B H' F' σ' S' os'→D.nx σ' H'
 | .bk S'=>∀ σ' H' F' os',FStep σ S H F os σ' S' H' F' os'→Rep B H' F' σ' S' os'→D.bk σ' H'
 | .ct S'=>∀ σ' H' F' os',FStep σ S H F os σ' S' H' F' os'→Rep B H' F' σ' S' os'→D.ct σ' H'
 | .rt x=>∀ v H' F' o,FStepR H F os H' F' o→VA B H' F' v x o→D.rt v H'
 | .bad=>False
def FS (B:Bk) (t:TS) (m:FSt→Fl):Prop:=
 ∀ (S:FSt) (σ:St) (H:Hp) (F:Addr→Prop) (os:Nat→List Addr) (D:Ends),Rep B H F σ S os→Lands B σ S H F os D (m S)→t D σ H
section
variable {B:Bk} {σ σ1:St} {S S1:FSt} {H H1:Hp} {F F1:Addr→Prop} {os os1:Nat→List Addr} {E:Ends}
theorem Lands.later {r:Fl} (h:Lands B σ S H F os E r) (a:FStep σ S H F os σ1 S1 H1 F1 os1):Lands B σ1 S1 H1 F1 os1 E r:=by
 cases r with
 | nx S'=>exact fun σ' H' F' os' st=>h σ' H' F' os' (a.trans st)
 | bk S'=>exact fun σ' H' F' os' st=>h σ' H' F' os' (a.trans st)
 | ct S'=>exact fun σ' H' F' os' st=>h σ' H' F' os' (a.trans st)
 | rt x=>exact fun v H' F' o st=>h v H' F' o (a.transR st)
 | bad=>exact h
end
@[simp] def mSeq (a b:FSt→Fl):FSt→Fl:=fun S=>match a S with
 | .nx S1=>b S1
 | r=>r
@[simp] def mPass:FSt→Fl:=fun S=>.nx S
@[simp] def put (i:Nat) (L:List Nat) (x:SV) (S:FSt):Fl:=
 if i < S.length∧isLk S i=false∧(x.plain=true∨L.any (isLk S)=false) then .nx ((if x.plain=true then S else frzs L S).set i (some x)) else .bad
@[simp] def mSet (i:Nat) (L:List Nat) (m:FSt→Option SV):FSt→Fl:=fun S=>match m S with
 | some x=>put i L x S
 | none=>.bad
@[simp] def mRet (m:FSt→Option SV):FSt→Fl:=fun S=>match m S with
 | some x=>.rt x
 | none=>.bad
@[simp] def SV.un:SV→SV
 | .lk xs=>.li xs
 | x=>x
@[simp] def mRetV (i:Nat):FSt→Fl:=fun S=>match S[i]?.join with
 | some x=>.rt x.un
 | none=>.bad
@[simp] def mRetN:FSt→Fl:=fun _=>.rt (.sh .non)
@[simp] def mDo (m:FSt→Option SV):FSt→Fl:=fun S=>match m S with
 | some _=>.nx S
 | none=>.bad
@[simp] def mIf (c:FSt→Option Bool) (a b:FSt→Fl):FSt→Fl:=fun S=>match c S with
 | some true=>a S
 | some false=>b S
 | none=>.bad
@[simp] def mBad:FSt→Fl:=fun _=>.bad
@[simp] def mBrk:FSt→Fl:=fun S=>.bk S
@[simp] def mCnt:FSt→Fl:=fun S=>.ct S
@[simp] def mApp (i:Nat) (L:List Nat) (m:FSt→Option D):FSt→Fl:=fun S=>match m S with
 | some d=>if d.plain=true∨L.any (isLk S)=false then
   match (if d.plain=true then S else frzs L S)[i]? with
   | some (some (.li xs))=>if xs.length < sizeLine then .nx ((if d.plain=true then S else frzs L S).set i (some (.li (xs++[d])))) else .bad
   | _=>.bad
  else .bad
 | none=>.bad
section
variable {B:Bk} {te:TE} {L:List Nat} {me:FSt→Option SV} {md:FSt→Option D} {t u:TS} {ma mb:FSt→Fl} {tt:TT} {mt:FSt→Option Bool}
theorem fs_next:FS B tNext mPass:=fun S σ H F os E r h=>h σ H F os FStep.refl r
theorem fs_seq (h1:FS B t ma) (h2:FS B u mb):FS B (tSeq t u) (mSeq ma mb):=by
 intro S σ H F os E r h
 refine h1 S σ H F os _ r ?_
 unfold mSeq at h
 cases q:ma S with
 | nx S1=>
  rw [q] at h
  intro σ' H' F' os' st r'
  exact h2 S1 σ' H' F' os' E r' (h.later st)
 | bk S1=>rw [q] at h; exact h
 | ct S1=>rw [q] at h; exact h
 | rt x=>rw [q] at h; exact h
 | bad=>rw [q] at h; exact h
theorem fs_never:FS B tNever mBad:=fun _ _ _ _ _ _ _ h=>h
theorem fs_if (hc:FT B tt mt) (h1:FS B t ma) (h2:FS B u mb):FS B (tIfS tt t u) (mIf mt ma mb):=by
 intro S σ H F os E r h
 unfold mIf at h
 cases q:mt S with
 | none=>rw [q] at h; exact h.elim
 | some c=>
  rw [q] at h
  refine hc S σ H F os _ c r q fun H' F' a r'=>?_
  cases c with
  | true=>rw [if_pos rfl]; exact h1 S σ H' F' os E r' (h.later a.step)
  | false=>rw [if_neg Bool.false_ne_true]; exact h2 S σ H' F' os E r' (h.later a.step)
theorem fs_ret (he:FE B te L me):FS B (tRet te) (mRet me):=by
 intro S σ H F os E r h
 unfold mRet at h
 cases q:me S with
 | none=>rw [q] at h; exact h.elim
 | some x=>
  rw [q] at h
  refine he S σ H F os _ x r q fun v H' F' o a r' va fr=>h v H' _ o ⟨fun b u e _=>a.same b u e,fun b z=>.inl (a.up b z),fun b z=>?_,fun b z=>.inl (fr b z),r'.gd L⟩ va
  rcases z with z | ⟨i,_,z⟩
  ·rcases a.new b z with z | z | z
   ·exact .inl z
   ·exact .inr (.inl z.1)
   ·exact .inr (.inr (.inr z))
  ·exact .inr (.inr (.inl ⟨i,z⟩))
theorem fs_retV (i:Nat):FS B (tRet (tVar i)) (mRetV i):=by
 intro S σ H F os E r h
 unfold mRetV at h
 cases q:S[i]? with
 | none=>rw [q] at h; exact h.elim
 | some z=>cases z with
  | none=>rw [q] at h; exact h.elim
  | some x=>
   rw [q] at h
   obtain ⟨v,h1,h2⟩:=r.at' i x q
   refine ⟨v,h1,h v H F (os i) ⟨fun b u e _=>e,fun b z=>z,fun b z=>.inl z,fun b z=>.inr ⟨i,z⟩,r.fd⟩ ?_⟩
   cases x <;> exact h2
theorem fs_do (he:FE B te L me):FS B (tDrop te) (mDo me):=by
 intro S σ H F os E r h
 unfold mDo at h
 cases q:me S with
 | none=>rw [q] at h; exact h.elim
 | some x=>
  rw [q] at h
  exact he S σ H F os _ x r q fun v H' F' o a r' va fr=>h σ H' F' os a.step r'
theorem put_ok {S:FSt} {σ:St} {H H':Hp} {F F':Addr→Prop} {os:Nat→List Addr} {i:Nat} {v:V} {x:SV} {o:List Addr} {E:Ends} (r:Rep B H F σ S os) (h:Lands B σ S H F os E (put i L x S)) (a:Al H F H' F') (r':Rep B H' F' σ S os)
  (va:VA B H' (orF F' (osL os L)) v x o) (fr:∀ b,b∈o→H b=none):E.nx (σ.set i (some v)) H':=by
 unfold put at h
 split at h
 case isFalse=>exact h.elim
 case isTrue c=>
  obtain ⟨hi,hl,hp⟩:=c
  have lokI:∀ (S':FSt),(∀ (j:Nat) (xs:List D),S[j]? = some (some (SV.lk xs))→j≠i→S'[j]? = some (some (SV.lk xs)))→∀ (j:Nat) (xs:List D),S[j]? = some (some (SV.lk xs))→(S'.set i (some x))[j]? = some (some (SV.lk xs))∧(σ.set i (some v))[j]? = σ[j]?:=fun S' hS j xs e=>by
   have hj:j≠i:=by rintro rfl; unfold isLk at hl; rw [e] at hl; cases hl
   exact ⟨by rw [List.getElem?_set_ne (Ne.symm hj)]; exact hS j xs e hj,by rw [List.getElem?_set_ne (Ne.symm hj)]⟩
  have lobI:∀ (S':FSt),(∀ (j c:Nat) (fs:List (Str×D)),S[j]? = some (some (SV.ob c fs))→j≠i→S'[j]? = some (some (SV.ob c fs)))→∀ (j c:Nat) (fs:List (Str×D)),S[j]? = some (some (SV.ob c fs))→(∃ fs',(S'.set i (some x))[j]? = some (some (SV.ob c fs')))∧(σ.set i (some v))[j]? = σ[j]?:=fun S' hS j c fs e=>by
   have hj:j≠i:=by rintro rfl; unfold isLk at hl; rw [e] at hl; cases hl
   exact ⟨⟨fs,by rw [List.getElem?_set_ne (Ne.symm hj)]; exact hS j c fs e hj⟩,by rw [List.getElem?_set_ne (Ne.symm hj)]⟩
  have lpuI:∀ (S':FSt),(∀ (j:Nat) (xs:List Int),S[j]? = some (some (SV.pu xs))→j≠i→S'[j]? = some (some (SV.pu xs)))→∀ (j:Nat) (xs:List Int),S[j]? = some (some (SV.pu xs))→(∃ xs',(S'.set i (some x))[j]? = some (some (SV.pu xs')))∧(σ.set i (some v))[j]? = σ[j]?:=fun S' hS j xs e=>by
   have hj:j≠i:=by rintro rfl; unfold isLk at hl; rw [e] at hl; cases hl
   exact ⟨⟨xs,by rw [List.getElem?_set_ne (Ne.symm hj)]; exact hS j xs e hj⟩,by rw [List.getElem?_set_ne (Ne.symm hj)]⟩
  by_cases p:x.plain=true
  ·rw [if_pos p] at h
   have va':=va.toF r' p
   have r2:=r'.set (i:=i) va' (fun b e j _ z=>(r.alive z).1 (fr b e)) hi
   refine h _ H' F' _ ⟨fun b u e _=>a.same b u e,a.step (σ:=σ) (S:=S) (os:=os) |>.liv,a.up,a.step (σ:=σ) (S:=S) (os:=os) |>.new,fun j b e=>?_,lokI S fun j xs e _=>e,lobI S fun j c fs e _=>e,lpuI S fun j xs e _=>e⟩ r2
   have e:b∈(if j=i then o else os j):=e
   split at e
   ·exact .inl (fr b e)
   ·exact .inr ⟨j,e⟩
  ·rw [if_neg p] at h
   have hp:L.any (isLk S)=false:=hp.resolve_left p
   have r1:=r'.frz L
   have r2:=r1.set (i:=i) va (fun b e j _ z=>by
    have z:b∈(if j∈L then [] else os j):=z
    split at z
    ·simp at z
    ·exact (r.alive z).1 (fr b e)) (by rw [frzs_len]; exact hi)
   refine h _ H' _ _ ⟨fun b u e _=>a.same b u e,a.step (σ:=σ) (S:=S) (os:=os) |>.liv,fun b z=>.inl (a.up b z),fun b z=>?_,fun j b e=>?_,lokI (frzs L S) fun j xs e _=>?_,lobI (frzs L S) fun j c fs e _=>?_,lpuI (frzs L S) fun j xs e _=>?_⟩ r2
   ·rcases z with z | ⟨k,_,z⟩
    ·exact (a.step (σ:=σ) (S:=S) (os:=os)).new b z
    ·exact .inr (.inr (.inl ⟨k,z⟩))
   ·have e:b∈(if j=i then o else if j∈L then [] else os j):=e
    split at e
    ·exact .inl (fr b e)
    ·split at e
     ·simp at e
     ·exact .inr ⟨j,e⟩
   ·rw [frzs_get,if_neg,e]
    intro z
    rw [List.any_eq_false] at hp
    have:=hp j z
    unfold isLk at this
    rw [e] at this
    exact this rfl
   ·rw [frzs_get,if_neg,e]
    intro z
    rw [List.any_eq_false] at hp
    have:=hp j z
    unfold isLk at this
    rw [e] at this
    exact this rfl
   ·rw [frzs_get,if_neg,e]
    intro z
    rw [List.any_eq_false] at hp
    have:=hp j z
    unfold isLk at this
    rw [e] at this
    exact this rfl
theorem fs_set {i:Nat} (he:FE B te L me):FS B (tAsg te (gName i)) (mSet i L me):=by
 intro S σ H F os E r h
 unfold mSet at h
 cases q:me S with
 | none=>rw [q] at h; exact h.elim
 | some x=>
  rw [q] at h
  exact he S σ H F os _ x r q fun v H' F' o a r' va fr=>put_ok r h a r' va fr
end
end L2
namespace L2
open PySem PySem.Spec PyProof.Rows
section
variable {B:Bk} {H H':Hp} {F F':Addr→Prop} {σ:St} {S:FSt} {os:Nat→List Addr} {L:List Nat}
theorem Rep.write (r:Rep B H F σ S os) {i:Nat} {a:Addr} {u:HO} {x:SV} {v:V} (e:a∈os i) (hv:σ[i]? = some (some v)) (va:VA B (upd H a u) F v x (os i)):Rep B (upd H a u) F σ (S.set i (some x)) os:=by
 obtain ⟨y,v',h1,h2,h3⟩:=r.own e
 have hi:i < S.length:=(List.getElem?_eq_some_iff.mp h1).1
 have hF:∀ b o,F b→H b=some o→upd H a u b=some o:=fun b o f h=>by rw [upd_ne]; exact h; rintro rfl; exact (r.alive e).2 f
 refine ⟨fun j z h=>?_,fun j h=>?_,r.inj,fun b h=>?_,by simp [r.len]⟩
 ·by_cases q:j=i
  ·subst q
   simp only [List.getElem?_set,if_pos rfl,hi,if_true] at h
   cases h
   exact ⟨v,hv,va⟩
  ·simp only [List.getElem?_set,if_neg (Ne.symm q)] at h
   obtain ⟨w,k1,k2⟩:=r.at' j z h
   refine ⟨w,k1,k2.mono hF (fun b o ob h=>?_) (fun _ h=>h) fun b ob=>(r.alive ob).2⟩
   rw [upd_ne]; exact h
   rintro rfl
   exact q (r.inj j i b ob e)
 ·by_cases q:j=i
  ·subst q
   exact absurd (by simp [List.getElem?_set,hi]) (h x)
  ·refine r.out j fun y k=>h y ?_
   simp only [List.getElem?_set,if_neg (Ne.symm q)]; exact k
 ·unfold upd
  split
  ·simp
  ·exact r.fd b h
theorem write_step {a:Addr} {u:HO} {i:Nat} {x:SV} (e:a∈os i) (nl:isLk S i=false∨(∃ c fs fs',S[i]? = some (some (SV.ob c fs))∧x=.ob c fs')∨∃ xs xs',S[i]? = some (some (SV.pu xs))∧x=.pu xs'):FStep σ S H F os σ (S.set i (some x)) (upd H a u) F os:=by
 refine ⟨fun b o h n=>?_,fun b h=>?_,fun _ h=>h,fun _ h=>.inl h,fun j b h=>.inr ⟨j,h⟩,fun j xs h=>⟨?_,rfl⟩,fun j c fs h=>⟨?_,rfl⟩,fun j xs h=>⟨?_,rfl⟩⟩
 ·rw [upd_ne]; exact h
  rintro rfl; exact n i e
 ·unfold upd
  split
  ·simp
  ·exact h
 ·have hj:j≠i:=by
   rintro rfl
   rcases nl with nl | ⟨c,fs,fs',nl,_⟩ | ⟨ys,ys',nl,_⟩
   ·unfold isLk at nl; rw [h] at nl; cases nl
   ·rw [h] at nl; cases nl
   ·rw [h] at nl; cases nl
  rw [List.getElem?_set_ne (Ne.symm hj)]; exact h
 ·by_cases hj:j=i
  ·subst hj
   rcases nl with nl | ⟨c',fs1,fs',nl,rfl⟩ | ⟨ys,ys',nl,_⟩
   ·unfold isLk at nl; rw [h] at nl; cases nl
   ·rw [h] at nl; cases nl
    exact ⟨fs',by simp [List.getElem?_set,(List.getElem?_eq_some_iff.mp h).1]⟩
   ·rw [h] at nl; cases nl
  ·exact ⟨fs,by rw [List.getElem?_set_ne (Ne.symm hj)]; exact h⟩
 ·by_cases hj:j=i
  ·subst hj
   rcases nl with nl | ⟨c',fs1,fs',nl,_⟩ | ⟨ys,ys',nl,rfl⟩
   ·unfold isLk at nl; rw [h] at nl; cases nl
   ·rw [h] at nl; cases nl
   ·rw [h] at nl; cases nl
    exact ⟨ys',by simp [List.getElem?_set,(List.getElem?_eq_some_iff.mp h).1]⟩
  ·exact ⟨xs,by rw [List.getElem?_set_ne (Ne.symm hj)]; exact h⟩
theorem frz_step (r:Rep B H F σ S os) (nl:L.any (isLk S)=false):FStep σ S H F os σ (frzs L S) H (orF F (osL os L)) (fun j=>if j∈L then [] else os j):=by
 refine ⟨fun b o h n=>h,fun b h=>h,fun _ h=>.inl h,fun b h=>?_,fun j b h=>?_,fun j xs h=>⟨?_,rfl⟩,fun j c fs h=>⟨⟨fs,?_⟩,rfl⟩,fun j xs h=>⟨⟨xs,?_⟩,rfl⟩⟩
 ·rcases h with h | ⟨i,_,h⟩
  ·exact .inl h
  ·exact .inr (.inr (.inl ⟨i,h⟩))
 ·have h:b∈(if j∈L then [] else os j):=h
  split at h
  ·simp at h
  ·exact .inr ⟨j,h⟩
 ·rw [frzs_get,if_neg,h]
  intro z
  rw [List.any_eq_false] at nl
  have:=nl j z
  unfold isLk at this
  rw [h] at this
  exact this rfl
 ·rw [frzs_get,if_neg,h]
  intro z
  rw [List.any_eq_false] at nl
  have:=nl j z
  unfold isLk at this
  rw [h] at this
  exact this rfl
 ·rw [frzs_get,if_neg,h]
  intro z
  rw [List.any_eq_false] at nl
  have:=nl j z
  unfold isLk at this
  rw [h] at this
  exact this rfl
end
section
variable {B:Bk} {te:TE} {L:List Nat} {md:FSt→Option D}
theorem fs_app {i:Nat} {K:W.Frag} (hK:B.K=K) (he:FD B te L md):FS B (tDrop (tBM K "list" rAppend (tVar i) (tCons te tNil))) (mApp i L md):=by
 subst hK
 intro S σ H F os E r h
 unfold mApp at h
 cases q:md S with
 | none=>rw [q] at h; exact h.elim
 | some d=>
  rw [q] at h
  dsimp only at h
  split at h
  case isFalse=>exact h.elim
  case isTrue c=>
   split at h
   case h_2=>exact h.elim
   case h_1 xs hx=>
    split at h
    case isFalse=>exact h.elim
    case isTrue hz=>
     have hS:S[i]? = some (some (.li xs))∧(d.plain=true∨i∉L):=by
      by_cases p:d.plain=true
      ·rw [if_pos p] at hx; exact ⟨hx,.inl p⟩
      ·rw [if_neg p,frzs_get] at hx
       by_cases hi:i∈L
       ·rw [if_pos hi] at hx
        cases e:S[i]? with
        | none=>rw [e] at hx; cases hx
        | some z=>cases z with
         | none=>rw [e] at hx; cases hx
         | some y=>rw [e] at hx; cases hx
       ·rw [if_neg hi] at hx; exact ⟨hx,.inr hi⟩
     obtain ⟨v,hv,a,vs,rfl,eo,nf,hh,das⟩:=r.at' i _ hS.1
     have nl:isLk S i=false:=by unfold isLk; rw [hS.1]; rfl
     refine ⟨.ref a,hv,.inl ⟨rfl,vs,.inl (.inl hh)⟩,he S σ H F os _ d r q fun w H' F' al r' da=>?_⟩
     obtain ⟨v',hv',a',vs',e1,eo',nf',hh',das'⟩:=r'.at' i _ hS.1
     have ea:a'=a:=by rw [eo] at eo'; exact (List.cons.inj eo').1.symm
     subst ea
     refine ⟨a',vs',w,rfl,rfl,hh',by rw [das'.length]; exact hz,?_⟩
     have st1:FStep σ S H F os σ S H' F' os:=al.step
     have em:a'∈os i:=by rw [eo]; simp
     by_cases p:d.plain=true
     ·rw [if_pos p] at h
      have da':=da.toF r' p
      have hk:∀ b o,F' b→H' b=some o→upd H' a' (.lst (vs'++[w])) b=some o:=fun b o f h=>by rw [upd_ne]; exact h; rintro rfl; exact nf' f
      have r2:=r'.write (u:=.lst (vs'++[w])) (x:=.li (xs++[d])) em hv ⟨a',vs'++[w],rfl,eo,nf',upd_same,(das'.append (.cons da' .nil)).mono hk fun _ h=>h⟩
      exact h σ _ F' os (st1.trans (write_step em (.inl nl))) r2
     ·rw [if_neg p] at h
      have hi:=hS.2.resolve_left p
      have c':=c.resolve_left p
      have r1:=r'.frz L
      have eo1:(fun j=>if j∈L then [] else os j) i=[a']:=by show (if i∈L then [] else os i)=_; rw [if_neg hi]; exact eo
      have em1:a'∈(fun j=>if j∈L then [] else os j) i:=by rw [eo1]; simp
      have nf1:¬ orF F' (osL os L) a':=fun z=>by
       rcases z with z | ⟨k,hk,z⟩
       ·exact nf' z
       ·exact hi (r.inj i k a' em z▸hk)
      have hk:∀ b o,orF F' (osL os L) b→H' b=some o→upd H' a' (.lst (vs'++[w])) b=some o:=fun b o f h=>by rw [upd_ne]; exact h; rintro rfl; exact nf1 f
      have d0:DAs B H' (orF F' (osL os L)) vs' xs:=das'.mono (fun _ _ _ e=>e) fun _ h=>.inl h
      have r2:=r1.write (u:=.lst (vs'++[w])) (x:=.li (xs++[d])) em1 hv ⟨a',vs'++[w],rfl,eo1,nf1,upd_same,(d0.append (.cons da .nil)).mono hk fun _ h=>h⟩
      have nl1:isLk (frzs L S) i=false:=by unfold isLk; rw [frzs_get,if_neg hi,hS.1]; rfl
      exact h σ _ _ _ ((st1.trans (frz_step r' c')).trans (write_step em1 (.inl nl1))) r2
end
def FG (B:Bk) (g:TG) (m:D→FSt→Option FSt):Prop:=
 ∀ (S:FSt) (σ:St) (H:Hp) (F:Addr→Prop) (os:Nat→List Addr) (v:V) (d:D) (S':FSt) (Q:St→Hp→Prop),Rep B H F σ S os→DA B H F v d→m d S=some S'→
  (∀ σ' os',FStep σ S H F os σ' S' H F os'→Rep B H F σ' S' os'→Q σ' H)→g v σ H Q
def FGs (B:Bk) (g:TGs) (m:List D→FSt→Option FSt):Prop:=
 ∀ (S:FSt) (σ:St) (H:Hp) (F:Addr→Prop) (os:Nat→List Addr) (vs:List V) (ds:List D) (S':FSt) (Q:St→Hp→Prop),Rep B H F σ S os→DAs B H F vs ds→m ds S=some S'→
  (∀ σ' os',FStep σ S H F os σ' S' H F os'→Rep B H F σ' S' os'→Q σ' H)→g vs σ H Q
@[simp] def gN (i:Nat):D→FSt→Option FSt:=fun d S=>if i < S.length∧isLk S i=false then some (S.set i (some (.sh d))) else none
@[simp] def gNs:List D→FSt→Option FSt:=fun ds S=>match ds with
 | []=>some S
 | _=>none
@[simp] def gCs (a:D→FSt→Option FSt) (r:List D→FSt→Option FSt):List D→FSt→Option FSt:=fun ds S=>match ds with
 | d :: ds=>(a d S).bind (r ds)
 | _=>none
@[simp] def gSq (n:Nat) (r:List D→FSt→Option FSt):D→FSt→Option FSt:=fun d S=>match d with
 | .tup ds=>if ds.length=n then r ds S else none
 | .lst ds=>if ds.length=n then r ds S else none
 | .kt ds=>if ds.length=n then r ds S else none
 | .fz ds=>if ds.length=n then r ds S else none
 | _=>none
section
variable {B:Bk} {g:TG} {gs:TGs} {mg:D→FSt→Option FSt} {ms:List D→FSt→Option FSt}
theorem fg_name (i:Nat):FG B (gName i) (gN i):=by
 intro S σ H F os v d S' Q r da e k
 unfold gN at e
 split at e
 case isFalse=>cases e
 case isTrue c=>
  cases e
  have r2:=r.set (i:=i) (v:=v) (x:=.sh d) (o:=[]) ⟨rfl,da⟩ (fun b e=>absurd e (by simp)) c.1
  refine k _ _ ⟨fun b u h _=>h,fun _ h=>h,fun _ h=>h,fun _ h=>.inl h,fun j b h=>?_,fun j xs h=>?_,fun j c' fs h=>?_,fun j xs h=>?_⟩ r2
  ·have h:b∈(if j=i then [] else os j):=h
   split at h
   ·simp at h
   ·exact .inr ⟨j,h⟩
  ·have hj:j≠i:=by rintro rfl; have:=c.2; unfold isLk at this; rw [h] at this; cases this
   exact ⟨by rw [List.getElem?_set_ne (Ne.symm hj)]; exact h,by rw [List.getElem?_set_ne (Ne.symm hj)]⟩
  ·have hj:j≠i:=by rintro rfl; have:=c.2; unfold isLk at this; rw [h] at this; cases this
   exact ⟨⟨fs,by rw [List.getElem?_set_ne (Ne.symm hj)]; exact h⟩,by rw [List.getElem?_set_ne (Ne.symm hj)]⟩
  ·have hj:j≠i:=by rintro rfl; have:=c.2; unfold isLk at this; rw [h] at this; cases this
   exact ⟨⟨xs,by rw [List.getElem?_set_ne (Ne.symm hj)]; exact h⟩,by rw [List.getElem?_set_ne (Ne.symm hj)]⟩
theorem fgs_nil:FGs B gNil gNs:=by
 intro S σ H F os vs ds S' Q r da e k
 cases da with
 | nil=>cases e; exact ⟨rfl,k σ os FStep.refl r⟩
 | cons _ _=>cases e
theorem fgs_cons (h1:FG B g mg) (h2:FGs B gs ms):FGs B (gCons g gs) (gCs mg ms):=by
 intro S σ H F os vs ds S' Q r da e k
 cases da with
 | nil=>cases e
 | cons h q=>
  obtain ⟨S1,e1,e2⟩:=bind1 e
  exact ⟨_,_,rfl,h1 S σ H F os _ _ S1 _ r h e1 fun σ' os' st r'=>h2 S1 σ' H F os' _ _ S' Q r' q e2 fun σ2 os2 st2 r2=>k σ2 os2 (st.trans st2) r2⟩
theorem fg_seq {n:Nat} {K:W.Frag} (hK:B.K=K) (h:FGs B gs ms):FG B (gSeq K n gs) (gSq n ms):=by
 subst hK
 intro S σ H F os v d S' Q r da e k
 cases da with
 | tup hn q=>
  unfold gSq at e
  dsimp only at e
  split at e
  case isFalse=>cases e
  case isTrue c=>exact .inl ⟨_,_,rfl,hn.sq,by rw [q.length]; exact c,h S σ H F os _ _ S' Q r q e k⟩
 | lst hn q=>
  unfold gSq at e
  dsimp only at e
  split at e
  case isFalse=>cases e
  case isTrue c=>exact .inr ⟨_,_,rfl,hn.sq,by rw [q.length]; exact c,h S σ H F os _ _ S' Q r q e k⟩
 | kt hn q=>
  unfold gSq at e
  dsimp only at e
  split at e
  case isFalse=>cases e
  case isTrue c=>exact .inl ⟨_,_,rfl,hn.sq,by rw [q.length]; exact c,h S σ H F os _ _ S' Q r q e k⟩
 | fz hn q=>
  unfold gSq at e
  dsimp only at e
  split at e
  case isFalse=>cases e
  case isTrue c=>exact .inr ⟨_,_,rfl,hn.sq,by rw [q.length]; exact c,h S σ H F os _ _ S' Q r q e k⟩
 | _=>cases e
end
def Walks (B:Bk) (J:It) (H:Hp) (F:Addr→Prop) (its:List D):Prop:=∀ (H2:Hp) (F2:Addr→Prop),(∀ b o,F b→H b=some o→H2 b=some o)→(∀ b,F b→F2 b)→
 (∀ i d,its[i]? = some d→J.go i H2∧∀ x H3,J.yld i H2 x H3→∃ F3,Al H2 F2 H3 F3∧DA B H3 F3 x d)∧∀ i,its.length≤i→J.stop i H2
def FI (B:Bk) (wi:TI) (m:FSt→Option (List D)):Prop:=
 ∀ (S:FSt) (σ:St) (H:Hp) (F:Addr→Prop) (os:Nat→List Addr) (R:It→Hp→Prop) (its:List D),Rep B H F σ S os→m S=some its→
  (∀ J H' F',Al H F H' F'→Rep B H' F' σ S os→Walks B J H' F' its→R J H')→wi σ H R
@[simp] def unow (S:FSt) (i:Nat):Bool:=match S[i]? with
 | some (some (SV.sh _))=>true
 | some (some _)=>false
 | _=>true
def chars (z:Str):List D:=z.cps.toList.map fun c=>.str ⟨#[c]⟩
@[simp] def itemsD:D→Option (List D)
 | .lst ds=>some ds
 | .tup ds=>some ds
 | .kt ds=>some ds
 | .fz ds=>some ds
 | .str z=>some (chars z)
 | _=>none
@[simp] def mIt (L:List Nat) (m:FSt→Option SV):FSt→Option (List D):=fun S=>(m S).bind fun x=>if x.plain=true∨L.all (unow S)=true then itemsD x.fr else none
def rngD (lo:Int) (n:Nat):List D:=(List.range n).map fun (k:Nat)=>.int (lo+k)
theorem cRng_ex:∃ f:Int→Bool,∀ i,f i=true↔-(2 ^ 62)≤i∧i < 2 ^ 62:=⟨fun i=>decide (-(2 ^ 62)≤i∧i < 2 ^ 62),fun i=>decide_eq_true_iff⟩
noncomputable def cRngB:Int→Bool:=Classical.choose cRng_ex
theorem cRng_iff {i:Int}:cRngB i=true↔-(2 ^ 62)≤i∧i < 2 ^ 62:=Classical.choose_spec cRng_ex i
@[simp] theorem cRng_of {i:Int} (h1:-4611686018427387904≤i) (h2:i < 4611686018427387904):cRngB i=true:=cRng_iff.mpr ⟨by omega,by omega⟩
noncomputable def fRng:List D→Option (List D)
 | [.int j]=>if cRngB j=true then some (rngD 0 j.toNat) else none
 | [.int i,.int j]=>if cRngB i=true∧cRngB j=true then some (rngD i (j-i).toNat) else none
 | _=>none
section
variable {B:Bk} {te:TE} {L:List Nat} {me:FSt→Option SV} {tr:TA} {mr:FSt→Option (List D)}
theorem walks_lst {H:Hp} {F:Addr→Prop} {a:Addr} {xs:List V} {ds:List D} (h:∀ H2,(∀ b o,F b→H b=some o→H2 b=some o)→SqL B.K H2 a xs) (q:DAs B H F xs ds):Walks B (Itl B.K a) H F ds:=by
 intro H2 F2 k up
 have h2:=h H2 k
 have q2:=q.mono k up
 refine ⟨fun i d e=>?_,fun i hi=>⟨xs,h2,by rw [q.length]; exact hi⟩⟩
 obtain ⟨v,e1,d1⟩:=q2.get e
 refine ⟨⟨xs,v,h2,e1⟩,fun x H3 y=>?_⟩
 obtain ⟨rfl,y⟩:=y
 have:=y xs h2
 rw [e1] at this; cases this
 exact ⟨F2,Al.refl,d1⟩
theorem walks_tup {H:Hp} {F:Addr→Prop} {a:Addr} {xs:List V} {ds:List D} (h:∀ H2,(∀ b o,F b→H b=some o→H2 b=some o)→SqT B.K H2 a xs) (q:DAs B H F xs ds):Walks B (Itt B.K a) H F ds:=by
 intro H2 F2 k up
 have h2:=h H2 k
 have q2:=q.mono k up
 refine ⟨fun i d e=>?_,fun i hi=>⟨xs,h2,by rw [q.length]; exact hi⟩⟩
 obtain ⟨v,e1,d1⟩:=q2.get e
 refine ⟨⟨xs,v,h2,e1⟩,fun x H3 y=>?_⟩
 obtain ⟨rfl,y⟩:=y
 have:=y xs h2
 rw [e1] at this; cases this
 exact ⟨F2,Al.refl,d1⟩
theorem walks_str {H:Hp} {F:Addr→Prop} (z:Str):Walks B (Its z) H F (chars z):=by
 intro H2 F2 k up
 refine ⟨fun i d e=>?_,fun i hi=>by
  have hi:z.cps.size≤i:=by simpa [chars] using hi
  exact hi⟩
 unfold chars at e
 rw [List.getElem?_map] at e
 cases q:z.cps.toList[i]? with
 | none=>rw [q] at e; cases e
 | some c=>
  rw [q] at e; cases e
  have hlt:i < z.cps.size:=by simpa using (List.getElem?_eq_some_iff.mp q).1
  refine ⟨hlt,fun x H3 y=>?_⟩
  obtain ⟨rfl,c',e',rfl⟩:=y
  have e2:z.cps.toList[i]? = some c':=by simpa using e'
  rw [q] at e2; cases e2
  exact ⟨F2,Al.refl,.str _⟩
theorem walks_rng {H:Hp} {F:Addr→Prop} (lo:Int) (n:Nat):Walks B (Itr lo n) H F (rngD lo n):=by
 intro H2 F2 k up
 refine ⟨fun i d e=>?_,fun i hi=>by
  have hi:n≤i:=by simpa [rngD] using hi
  exact hi⟩
 have hi:i < n:=by have:=(List.getElem?_eq_some_iff.mp e).1; simpa [rngD] using this
 have:(rngD lo n)[i]? = some (.int (lo+i)):=by simp [rngD,hi]
 rw [this] at e; cases e
 exact ⟨hi,fun x H3 y=>by obtain ⟨rfl,rfl⟩:=y; exact ⟨F2,Al.refl,.int _⟩⟩
theorem toF_of {H:Hp} {F:Addr→Prop} {σ:St} {S:FSt} {os:Nat→List Addr} {v:V} {x:SV} {o:List Addr} (r:Rep B H F σ S os) (va:VA B H (orF F (osL os L)) v x o) (c:x.plain=true∨L.all (unow S)=true):VA B H F v x o:=by
 rcases c with c | c
 ·exact va.toF r c
 ·refine va.sub (fun b h=>?_) fun b e z=>(va.alive e).2.1 (.inl z)
  rcases h with h | ⟨i,hi,e⟩
  ·exact h
  ·obtain ⟨y,w,h1,_,h2⟩:=r.own e
   have:=List.all_eq_true.mp c i hi
   unfold unow at this
   rw [h1] at this
   cases y with
   | sh d=>rw [h2.1] at e; simp at e
   | _=>cases this
theorem fi_seq {K:W.Frag} (hK:B.K=K) (he:FE B te L me):FI B (iSeq K te) (mIt L me):=by
 subst hK
 intro S σ H F os R its r e k
 obtain ⟨x,ex,ef⟩:=bind1 e
 split at ef
 case isFalse=>cases ef
 case isTrue c=>
  have key:∀ (P:V→Hp→Prop),(∀ v H' F',Al H F H' F'→Rep B H' F' σ S os→DA B H' F' v x.fr→P v H')→te σ H P:=fun P hP=>by
   refine he S σ H F os P x r ex fun v H' F' o a r' va fr=>?_
   have va:=toF_of r' va c
   have al:Al H F H' (fun b=>F' b∨b∈o):=by
    refine ⟨a.same,fun b h=>.inl (a.up b h),fun b h=>?_⟩
    rcases h with h | h
    ·exact a.new b h
    ·exact .inr (.inl ⟨fr b h,(va.alive h).1⟩)
   exact hP v H' _ al (r.mono al) (va.frozen (fun b h=>.inl h) fun b h=>.inr h)
  cases hx:x.fr with
  | lst ds=>
   rw [hx] at ef key; cases ef
   refine .inl (key _ fun v H' F' al r' da=>?_)
   cases da with
   | lst h q=>exact ⟨_,rfl,⟨_,h.sq⟩,k _ H' F' al r' (walks_lst (fun H2 kk=>.inl (.inl (kk _ _ h.1 h.2))) q)⟩
  | fz ds=>
   rw [hx] at ef key; cases ef
   refine .inl (key _ fun v H' F' al r' da=>?_)
   cases da with
   | fz h q=>exact ⟨_,rfl,⟨_,h.sq⟩,k _ H' F' al r' (walks_lst (fun H2 kk=>(h.keep kk fun _ z=>z).sq) q)⟩
  | tup ds=>
   rw [hx] at ef key; cases ef
   refine .inr (.inl (key _ fun v H' F' al r' da=>?_))
   cases da with
   | tup h q=>exact ⟨_,rfl,⟨_,h.sq⟩,k _ H' F' al r' (walks_tup (fun H2 kk=>.inl (.inl (kk _ _ h.1 h.2))) q)⟩
  | kt ds=>
   rw [hx] at ef key; cases ef
   refine .inr (.inl (key _ fun v H' F' al r' da=>?_))
   cases da with
   | kt h q=>exact ⟨_,rfl,⟨_,h.sq⟩,k _ H' F' al r' (walks_tup (fun H2 kk=>h.sq) q)⟩
  | str z=>
   rw [hx] at ef key; cases ef
   refine .inr (.inr (key _ fun v H' F' al r' da=>?_))
   cases da
   exact ⟨_,rfl,k _ H' F' al r' (walks_str z)⟩
  | _=>rw [hx] at ef; cases ef
theorem fi_rng1 (hr:FA B tr L mr):FI B (iRng1 tr) (fun S=>(mr S).bind fun ds=>if ds.length=1 then fRng ds else none):=by
 intro S σ H F os R its r e k
 obtain ⟨ds,ed,ef⟩:=bind1 e
 refine hr S σ H F os _ ds r ed fun vs H' F' a r' da=>?_
 split at ef
 case isFalse=>cases ef
 case isTrue c=>
  match ds,c with
  | [d],_=>
   obtain ⟨v,rfl,d1⟩:=da.one
   cases d with
   | int j=>
    cases d1
    unfold fRng at ef
    dsimp only at ef
    split at ef
    case isFalse=>cases ef
    case isTrue hj=>rw [cRng_iff] at hj; cases ef; exact ⟨j,rfl,hj.1,hj.2,k _ H' F' a r' (walks_rng 0 _)⟩
   | _=>cases ef
end
def loopM (mg:D→FSt→Option FSt) (mb:FSt→Fl):List D→FSt→Fl
 | [],S=>.nx S
 | d :: r,S=>match mg d S with
  | none=>.bad
  | some S1=>match mb S1 with
   | .nx S2=>loopM mg mb r S2
   | .ct S2=>loopM mg mb r S2
   | .bk S2=>.nx S2
   | .rt x=>.rt x
   | .bad=>.bad
@[simp] def mFor (mi:FSt→Option (List D)) (mg:D→FSt→Option FSt) (mb:FSt→Fl):FSt→Fl:=fun S=>match mi S with
 | some its=>loopM mg mb its S
 | none=>.bad
@[simp] def unlk (j:Nat) (S:FSt):FSt:=match S[j]? with
 | some (some (.lk xs))=>S.set j (some (.li xs))
 | _=>S
@[simp] def mForV (j:Nat) (mg:D→FSt→Option FSt) (mb:FSt→Fl):FSt→Fl:=fun S=>match S[j]? with
 | some (some (.li xs))=>match loopM mg mb xs (S.set j (some (.lk xs))) with
  | .nx S'=>.nx (unlk j S')
  | r=>r
 | some (some (.sh d))=>match itemsD d with
  | some its=>loopM mg mb its S
  | none=>.bad
 | some (some (.ll xss))=>loopM mg mb (xss.map D.lst) (S.set j (some (.sh (.lst (xss.map D.lst)))))
 | _=>.bad
section
variable {B:Bk} {wi:TI} {mi:FSt→Option (List D)} {g:TG} {mg:D→FSt→Option FSt} {tb:TS} {mb:FSt→Fl}
theorem loop_go {J:It} {its:List D} {E:Ends} (hg:FG B g mg) (hb:FS B tb mb) (Z:St→FSt→Hp→(Addr→Prop)→(Nat→List Addr)→Prop)
  (zs:∀ {σ S H F os σ' S' H' F' os'},Rep B H F σ S os→Rep B H' F' σ' S' os'→FStep σ S H F os σ' S' H' F' os'→Z σ S H F os→Z σ' S' H' F' os')
  (zi:∀ {σ S H F os} (i:Nat) (d:D),Rep B H F σ S os→Z σ S H F os→its[i]? = some d→J.go i H∧∀ x H3,J.yld i H x H3→∃ F3,Al H F H3 F3∧DA B H3 F3 x d)
  (ze:∀ {σ S H F os} (i:Nat),Rep B H F σ S os→Z σ S H F os→its.length≤i→J.stop i H)
  {S:FSt} {σ:St} {H:Hp} {F:Addr→Prop} {os:Nat→List Addr} (r:Rep B H F σ S os) (z:Z σ S H F os) (h:Lands B σ S H F os E (loopM mg mb its S)) :
  ∃ W:Nat→Nat→St→Hp→Prop,(∃ m,W 0 m σ H)∧∀ i m σ H,W i m σ H→
   (J.stop i H∧E.nx σ H)∨(J.go i H∧∃ N:St→Hp→Prop,(∀ σ' H',N σ' H'→∃ m',m' < m∧W (i+1) m' σ' H')∧∀ x H',J.yld i H x H'→g x σ H' fun σ2 H2=>tb { E with nx:=N,ct:=N,bk:=E.nx } σ2 H2):=by
 refine ⟨fun i m σ' H'=>i≤its.length∧m=its.length-i∧∃ S' F' os',Rep B H' F' σ' S' os'∧Z σ' S' H' F' os'∧Lands B σ' S' H' F' os' E (loopM mg mb (its.drop i) S'),
  ⟨_,Nat.zero_le _,rfl,S,F,os,r,z,by simpa using h⟩,?_⟩
 rintro i m σ1 H1 ⟨hi,hm,S1,F1,os1,r1,z1,h1⟩
 cases q:its[i]? with
 | none=>
  have hle:its.length≤i:=List.getElem?_eq_none_iff.mp q
  rw [List.drop_eq_nil_of_le hle] at h1
  exact .inl ⟨ze i r1 z1 hle,h1 σ1 H1 F1 os1 FStep.refl r1⟩
 | some d=>
  have hlt:i < its.length:=(List.getElem?_eq_some_iff.mp q).1
  have hd:its.drop i=d :: its.drop (i+1):=by
   rw [List.drop_eq_getElem_cons hlt]
   have:its[i]=d:=(List.getElem?_eq_some_iff.mp q).2
   rw [this]
  rw [hd,loopM] at h1
  obtain ⟨go,yl⟩:=zi i d r1 z1 q
  refine .inr ⟨go,fun σ' H'=>i+1≤its.length∧∃ S' F' os',Rep B H' F' σ' S' os'∧Z σ' S' H' F' os'∧Lands B σ' S' H' F' os' E (loopM mg mb (its.drop (i+1)) S'),
   fun σ' H' n=>⟨its.length-(i+1),by omega,n.1,rfl,n.2⟩,fun x H2 y=>?_⟩
  obtain ⟨F2,al,da⟩:=yl x H2 y
  have r2:=r1.mono al
  cases e1:mg d S1 with
  | none=>rw [e1] at h1; exact h1.elim
  | some S2=>
   rw [e1] at h1
   dsimp only at h1
   refine hg S1 σ1 H2 F2 os1 x d S2 _ r2 da e1 fun σ2 os2 st2 r3=>?_
   have stA:FStep σ1 S1 H1 F1 os1 σ2 S2 H2 F2 os2:=al.step.trans st2
   refine hb S2 σ2 H2 F2 os2 _ r3 ?_
   cases e2:mb S2 with
   | nx S3=>
    rw [e2] at h1
    intro σ' H' F' os' st r'
    exact ⟨hlt,S3,F',os',r',zs r1 r' (stA.trans st) z1,h1.later (stA.trans st)⟩
   | ct S3=>
    rw [e2] at h1
    intro σ' H' F' os' st r'
    exact ⟨hlt,S3,F',os',r',zs r1 r' (stA.trans st) z1,h1.later (stA.trans st)⟩
   | bk S3=>
    rw [e2] at h1
    intro σ' H' F' os' st r'
    exact h1 σ' H' F' os' (stA.trans st) r'
   | rt x=>
    rw [e2] at h1
    exact h1.later stA
   | bad=>rw [e2] at h1; exact h1.elim
theorem fs_for (hi:FI B wi mi) (hg:FG B g mg) (hb:FS B tb mb):FS B (tFor wi g tb) (mFor mi mg mb):=by
 intro S σ H F os E r h
 unfold mFor at h
 cases q:mi S with
 | none=>rw [q] at h; exact h.elim
 | some its=>
  rw [q] at h
  refine hi S σ H F os _ its r q fun J H1 F1 al r1 wk=>?_
  refine loop_go (J:=J) (its:=its) hg hb (fun _ _ H' F' _=>(∀ b o,F1 b→H1 b=some o→H' b=some o)∧∀ b,F1 b→F' b) ?_ ?_ ?_ r1 ⟨fun _ _ _ e=>e,fun _ h=>h⟩ (h.later al.step)
  ·intro σ S H F os σ' S' H' F' os' r r' st z
   exact ⟨fun b o f e=>st.keep b o (z.1 b o f e) fun i e=>(r.alive e).2 (z.2 b f),fun b f=>st.up b (z.2 b f)⟩
  ·intro σ S H F os i d r z e
   exact (wk H F z.1 z.2).1 i d e
  ·intro σ S H F os i r z e
   exact (wk H F z.1 z.2).2 i e
theorem fs_forV {j:Nat} {K:W.Frag} (hK:B.K=K) (hg:FG B g mg) (hb:FS B tb mb):FS B (tFor (iSeq K (tVar j)) g tb) (mForV j mg mb):=by
 subst hK
 intro S σ H F os E r h
 unfold mForV at h
 split at h
 ·rename_i xs e
  obtain ⟨v,hv,a,vs,rfl,eo,nf,hh,das⟩:=r.at' j _ e
  have hj:j < S.length:=(List.getElem?_eq_some_iff.mp e).1
  refine .inl ⟨.ref a,hv,a,rfl,⟨vs,.inl (.inl hh)⟩,?_⟩
  have r0:Rep B H F σ (S.set j (some (.lk xs))) os:=by
   have hu:upd H a (.lst vs)=H:=by
    funext b; unfold upd
    split
    ·rename_i q; rw [q,hh]
    ·rfl
   have:=r.write (u:=.lst vs) (x:=.lk xs) (by rw [eo]; simp) hv ⟨a,vs,rfl,eo,nf,upd_same,by rw [hu]; exact das⟩
   rw [hu] at this
   exact this
  have sj:(S.set j (some (SV.lk xs)))[j]? = some (some (.lk xs)):=by simp [List.getElem?_set,hj]
  let E':Ends:={ E with nx:=E.nx }
  have key:∀ {σ':St} {S':FSt} {H':Hp} {F':Addr→Prop} {os':Nat→List Addr},FStep σ (S.set j (some (.lk xs))) H F os σ' S' H' F' os'→Rep B H' F' σ' S' os'→FStep σ S H F os σ' (unlk j S') H' F' os'∧Rep B H' F' σ' (unlk j S') os':=by
   intro σ' S' H' F' os' st r'
   obtain ⟨k1,k2⟩:=st.lok j xs sj
   have hu:unlk j S'=S'.set j (some (.li xs)):=by unfold unlk; rw [k1]
   have hj':j < S'.length:=(List.getElem?_eq_some_iff.mp k1).1
   rw [hu]
   refine ⟨⟨st.keep,st.liv,st.up,st.new,st.own,fun i ys q=>?_,fun i c fs q=>?_,fun i ys q=>?_⟩,?_⟩
   ·have hij:i≠j:=by rintro rfl; rw [e] at q; cases q
    obtain ⟨q1,q2⟩:=st.lok i ys (by rw [List.getElem?_set_ne (Ne.symm hij)]; exact q)
    exact ⟨by rw [List.getElem?_set_ne (Ne.symm hij)]; exact q1,q2⟩
   ·have hij:i≠j:=by rintro rfl; rw [e] at q; cases q
    obtain ⟨⟨fs',q1⟩,q2⟩:=st.lob i c fs (by rw [List.getElem?_set_ne (Ne.symm hij)]; exact q)
    exact ⟨⟨fs',by rw [List.getElem?_set_ne (Ne.symm hij)]; exact q1⟩,q2⟩
   ·have hij:i≠j:=by rintro rfl; rw [e] at q; cases q
    obtain ⟨⟨fs',q1⟩,q2⟩:=st.lpu i ys (by rw [List.getElem?_set_ne (Ne.symm hij)]; exact q)
    exact ⟨⟨fs',by rw [List.getElem?_set_ne (Ne.symm hij)]; exact q1⟩,q2⟩
   ·refine ⟨fun i x q=>?_,fun i q=>?_,r'.inj,r'.fd,by simp [r'.len]⟩
    ·by_cases hij:i=j
     ·subst hij
      simp only [List.getElem?_set,if_pos rfl,hj',if_true] at q
      cases q
      obtain ⟨w,w1,w2⟩:=r'.at' i _ k1
      exact ⟨w,w1,w2⟩
     ·exact r'.at' i x (by rw [List.getElem?_set_ne (Ne.symm hij)] at q; exact q)
    ·by_cases hij:i=j
     ·subst hij
      exact absurd (by simp [List.getElem?_set,hj']) (q (.li xs))
     ·exact r'.out i fun y z=>q y (by rw [List.getElem?_set_ne (Ne.symm hij)]; exact z)
  have h0:Lands B σ (S.set j (some (.lk xs))) H F os E (loopM mg mb xs (S.set j (some (.lk xs)))):=by
   cases q:loopM mg mb xs (S.set j (some (.lk xs))) with
   | nx S'=>
    rw [q] at h
    intro σ' H' F' os' st r'
    exact h σ' H' F' os' (key st r').1 (key st r').2
   | rt x=>rw [q] at h; exact h
   | bad=>rw [q] at h; exact h
   | bk S'=>
    exact absurd q (by
     have:∀ (l:List D) (S:FSt) S',loopM mg mb l S≠.bk S':=by
      intro l
      induction l with
      | nil=>intro S S' z; cases z
      | cons d l ih=>
       intro S S' z
       rw [loopM] at z
       split at z
       ·cases z
       ·split at z
        ·exact ih _ _ z
        ·exact ih _ _ z
        ·cases z
        ·cases z
        ·cases z
     exact this _ _ _)
   | ct S'=>
    exact absurd q (by
     have:∀ (l:List D) (S:FSt) S',loopM mg mb l S≠.ct S':=by
      intro l
      induction l with
      | nil=>intro S S' z; cases z
      | cons d l ih=>
       intro S S' z
       rw [loopM] at z
       split at z
       ·cases z
       ·split at z
        ·exact ih _ _ z
        ·exact ih _ _ z
        ·cases z
        ·cases z
        ·cases z
     exact this _ _ _)
  refine loop_go (J:=Itl B.K a) (its:=xs) hg hb (fun σ' S' _ _ _=>S'[j]? = some (some (.lk xs))∧σ'[j]? = some (some (.ref a))) ?_ ?_ ?_ r0 ⟨sj,hv⟩ h0
  ·intro σ S H F os σ' S' H' F' os' r r' st z
   obtain ⟨k1,k2⟩:=st.lok j xs z.1
   exact ⟨k1,k2.trans z.2⟩
  ·intro σ S H F os i d r z e
   obtain ⟨v,hv,a',vs,e1,eo,nf,hh,das⟩:=r.at' j _ z.1
   rw [z.2] at hv; cases hv; cases e1
   obtain ⟨v,e1,d1⟩:=das.get e
   refine ⟨⟨vs,v,.inl (.inl hh),e1⟩,fun x H3 y=>?_⟩
   obtain ⟨rfl,y⟩:=y
   have:=y vs (.inl (.inl hh))
   rw [e1] at this; cases this
   exact ⟨F,Al.refl,d1⟩
  ·intro σ S H F os i r z e
   obtain ⟨v,hv,a',vs,e1,eo,nf,hh,das⟩:=r.at' j _ z.1
   rw [z.2] at hv; cases hv; cases e1
   exact ⟨vs,.inl (.inl hh),by rw [das.length]; exact e⟩
 ·rename_i d e
  have hw:=fs_for (B:=B) (fi_seq rfl (fd_var j).fe) hg hb S σ H F os E r
  refine hw ?_
  unfold mFor
  have:mIt [j] (mSh (mV j)) S=itemsD d:=by
   have hs:mSh (mV j) S=some (.sh d):=by simp [mSh,mV,e,SV.fr]
   simp [mIt,hs,unow,e,SV.fr]
  rw [this]
  cases q:itemsD d with
  | none=>rw [q] at h; exact h.elim
  | some its=>rw [q] at h; exact h
 ·rename_i xss e
  have nl:[j].any (isLk S)=false:=by simp only [List.any_cons,List.any_nil,Bool.or_false,isLk,e]; rfl
  have hf:frzs [j] S=S.set j (some (.sh (.lst (xss.map D.lst)))):=by simp [frzs,frz1,e,SV.fr]
  have hw:=fs_for (B:=B) (fi_seq rfl (fd_var j).fe) hg hb (frzs [j] S) σ H _ _ E (r.frz [j])
  refine hw ?_
  have hj:j < S.length:=(List.getElem?_eq_some_iff.mp e).1
  have e2:(S.set j (some (SV.sh (.lst (xss.map D.lst)))))[j]? = some (some (.sh (.lst (xss.map D.lst)))):=by simp [List.getElem?_set,hj]
  unfold mFor
  have:mIt [j] (mSh (mV j)) (frzs [j] S)=some (xss.map D.lst):=by
   rw [hf]
   have hs:mSh (mV j) (S.set j (some (SV.sh (.lst (xss.map D.lst)))))=some (.sh (.lst (xss.map D.lst))):=by simp only [mSh,mV,e2]; rfl
   simp only [mIt,hs,Option.bind_some,unow,e2,List.all_cons,List.all_nil,Bool.and_true,or_true,if_true]
   rfl
  rw [this,hf]
  rw [← hf]
  have h':=h.later (frz_step r nl)
  rw [hf] at h' ⊢
  exact h'
 ·exact h.elim
end
def whileM (mc:FSt→Option Bool) (mb:FSt→Fl):Nat→FSt→Fl
 | 0,_=>.bad
 | n+1,S=>match mc S with
  | none=>.bad
  | some false=>.nx S
  | some true=>match mb S with
   | .nx S1=>whileM mc mb n S1
   | .ct S1=>whileM mc mb n S1
   | .bk S1=>.nx S1
   | .rt x=>.rt x
   | .bad=>.bad
open Classical in
noncomputable def mWhile (mc:FSt→Option Bool) (mb:FSt→Fl):FSt→Fl:=fun S=>if h:∃ n,whileM mc mb n S≠.bad then whileM mc mb (choose h) S else .bad
theorem whileM_more {mc:FSt→Option Bool} {mb:FSt→Fl}:∀ (n k:Nat) (S:FSt),whileM mc mb n S≠.bad→whileM mc mb (n+k) S=whileM mc mb n S
 | 0,_,_,h=>absurd rfl h
 | n+1,k,S,h=>by
  rw [show n+1+k=(n+k)+1 by omega,whileM,whileM]
  rw [whileM] at h
  cases q:mc S with
  | none=>rfl
  | some c=>cases c with
   | false=>rfl
   | true=>
    rw [q] at h
    dsimp only at h ⊢
    cases q2:mb S with
    | nx S1=>rw [q2] at h; exact whileM_more n k S1 h
    | ct S1=>rw [q2] at h; exact whileM_more n k S1 h
    | bk S1=>rfl
    | rt x=>rfl
    | bad=>rfl
theorem mWhile_eq {mc:FSt→Option Bool} {mb:FSt→Fl} {n:Nat} {S:FSt} (h:whileM mc mb n S≠.bad):mWhile mc mb S=whileM mc mb n S:=by
 unfold mWhile
 have hx:∃ n,whileM mc mb n S≠.bad:=⟨n,h⟩
 rw [dif_pos hx]
 have h1:=Classical.choose_spec hx
 have e1:=whileM_more _ n S h1
 have e2:=whileM_more _ (Classical.choose hx) S h
 rw [Nat.add_comm] at e2
 exact e1.symm.trans e2
theorem fs_while {B:Bk} {tt:TT} {mc:FSt→Option Bool} {tb:TS} {mb:FSt→Fl} (hc:FT B tt mc) (hb:FS B tb mb):FS B (tWhile tt tb) (mWhile mc mb):=by
 intro S σ H F os E r h
 unfold mWhile at h
 split at h
 case isFalse=>exact h.elim
 case isTrue hx=>
  generalize Classical.choose hx=n at h
  refine ⟨fun m σ' H'=>∃ S' F' os',Rep B H' F' σ' S' os'∧Lands B σ' S' H' F' os' E (whileM mc mb m S'),⟨n,S,F,os,r,h⟩,?_⟩
  rintro m σ1 H1 ⟨S1,F1,os1,r1,h1⟩
  cases m with
  | zero=>exact h1.elim
  | succ m=>
   rw [whileM] at h1
   cases q:mc S1 with
   | none=>rw [q] at h1; exact h1.elim
   | some c=>
    rw [q] at h1
    refine hc S1 σ1 H1 F1 os1 _ c r1 q fun H2 F2 al r2=>?_
    cases c with
    | false=>rw [if_neg Bool.false_ne_true]; exact h1 σ1 H2 F2 os1 al.step r2
    | true=>
     rw [if_pos rfl]
     dsimp only at h1
     refine ⟨fun σ' H'=>∃ S' F' os',Rep B H' F' σ' S' os'∧Lands B σ' S' H' F' os' E (whileM mc mb m S'),fun σ' H' n=>⟨m,Nat.lt_succ_self m,n⟩,?_⟩
     refine hb S1 σ1 H2 F2 os1 _ r2 ?_
     cases e2:mb S1 with
     | nx S3=>
      rw [e2] at h1
      intro σ' H' F' os' st r'
      exact ⟨S3,F',os',r',h1.later (al.step.trans st)⟩
     | ct S3=>
      rw [e2] at h1
      intro σ' H' F' os' st r'
      exact ⟨S3,F',os',r',h1.later (al.step.trans st)⟩
     | bk S3=>
      rw [e2] at h1
      intro σ' H' F' os' st r'
      exact h1 σ' H' F' os' (al.step.trans st) r'
     | rt x=>rw [e2] at h1; exact h1.later al.step
     | bad=>rw [e2] at h1; exact h1.elim
def runF (m:FSt→Fl) (n k:Nat) (ds:List D):Option SV:=if ds.length=n then (match m (ds.map (fun d=>some (.sh d))++List.replicate (k-n) none) with
 | .nx _=>some (.sh .non)
 | .rt x=>some x
 | _=>none) else none
theorem runF_len {m:FSt→Fl} {n k:Nat} {ds:List D} {z:SV} (h:runF m n k ds=some z):ds.length=n:=by
 unfold runF at h
 split at h
 ·assumption
 ·cases h
theorem rep_start {B:Bk} {H:Hp} {G:Addr→Prop} {N:List Str} {vs:List V} {ds:List D} (hg:∀ b,G b→H b≠none) (da:DAs B H G vs ds) (hn:vs.length≤N.length) :
  Rep B H G (start N vs) (ds.map (fun d=>some (.sh d))++List.replicate (N.length-ds.length) none) (fun _=>[]):=by
 refine ⟨fun i x h=>?_,fun i _=>rfl,fun i j a e=>absurd e (by simp),hg,?_⟩
 ·by_cases hi:i < ds.length
  ·rw [List.getElem?_append_left (by simpa using hi),List.getElem?_map] at h
   cases q:ds[i]? with
   | none=>rw [q] at h; cases h
   | some d=>
    rw [q] at h; cases h
    obtain ⟨v,e,da'⟩:=da.get q
    refine ⟨v,?_,rfl,da'⟩
    unfold start
    rw [List.getElem?_append_left (by simp; rw [da.length]; exact hi),List.getElem?_map,e]; rfl
  ·rw [List.getElem?_append_right (by simpa using hi)] at h
   rw [List.getElem?_replicate] at h
   split at h <;> cases h
 ·unfold start
  have:=da.length
  simp
  omega
theorem fn_F {CX : CXT} {P : Program} {w : World} {K : W.Frag} {mg : Str → Option Value} {base : Heap} {k : Nat} {f : Addr} {name qual : Str} {params : Arguments} {body : List Stmt} {scope : Scope} {dV kV doc pm cdv ct oc : Value} {an od : Option Addr}
    {osl : Array (Option Value)} {N ps : List Str} {B : Bk} {m : FSt → Fl} (lk : K.lookup f = some ⟨oc, od, .func (W.fnOf name qual params body scope dV kV doc pm an cdv ct), osl⟩) (hcd : W.codeIn K cdv qual = true) (S : FnScope N ps scope)
    (hbody : ∀ (A : Around) (outer : List Env) (s : Shared) (H : Hp) (E : XK), Room k (A.deeper (envOfC qual scope s.heap.objs.size f cdv)) →
      ∃ t, PSs (cxOf CX P w K mg base N qual scope f cdv A outer s H E) body t ∧ FS B t m) :
    FnOk P w K mg base CX (k + 1) f (W.fnOf name qual params body scope dV kV doc pm an cdv ct) ps (SpF B ps.length (runF m ps.length N.length)) := by
  have hpl : ps.length ≤ N.length := by have := congrArg List.length S.pre; rw [List.length_take] at this; omega
  refine fn_of lk hcd S (fun vs H Q E h => h.1) fun A outer s H vs Q E hr ⟨hl, G, ds, z, hg, da, hz, post⟩ => ?_
  obtain ⟨t, ht, hf⟩ := hbody A outer s H E hr
  refine ⟨t, ht, hf _ _ H G (fun _ => []) _ (rep_start hg da (by omega)) ?_⟩
  have hdl : ds.length = ps.length := by rw [← da.length]; exact hl
  unfold runF at hz
  rw [if_pos hdl] at hz
  rw [hdl]
  have done : ∀ {H' : Hp} {F' : Addr → Prop} {o : List Addr} {v : V} {x : SV}, FStepR H G (fun _ => []) H' F' o → VA B H' F' v x o → z = x → Q v H' := by
    intro H' F' o v x st va e
    subst e
    refine post v H' F' o ⟨fun b u h => st.keep b u h (fun i e => absurd e (by simp)), st.up, fun b h => ?_⟩ va fun b h => ?_
    · rcases st.new b h with q | q | ⟨i, q⟩ | q
      · exact .inl q
      · exact .inr (.inl ⟨q, st.fd b h⟩)
      · simp at q
      · exact .inr (.inr q)
    · rcases st.own b h with q | ⟨i, q⟩
      · exact q
      · simp at q
  cases q : m (ds.map (fun d => some (.sh d)) ++ List.replicate (N.length - ps.length) none) with
  | nx S' =>
    rw [q] at hz
    intro σ' H' F' os' st r'
    exact done (v := .non) (x := .sh .non) ⟨st.keep, st.up, st.new, fun b e => absurd e (by simp), r'.fd⟩ ⟨rfl, .non⟩ (Option.some.inj hz).symm
  | rt x =>
    rw [q] at hz
    intro v H' F' o st va
    exact done st va (Option.some.inj hz).symm
  | bk S' => rw [q] at hz; cases hz
  | ct S' => rw [q] at hz; cases hz
  | bad => rw [q] at hz; cases hz
end L2
namespace L2
open PySem PySem.Spec PyProof.Rows
def compM (mg:D→FSt→Option FSt) (mt:FSt→Option Bool) (me:FSt→Option D):List D→FSt→Option (List D)
 | [],_=>some []
 | d :: r,S=>(mg d S).bind fun S1=>(mt S1).bind fun c=>if c=true then (me S1).bind fun x=>(compM mg mt me r S1).map fun xs=>x :: xs else compM mg mt me r S1
@[simp] def compS (own:Nat) (fi:List Nat) (S:FSt):FSt:=List.replicate own none++fi.map fun j=>(S[j]?.join).map fun x=>SV.sh x.fr
@[simp] def mComp (own:Nat) (fi:List Nat) (mi:FSt→Option (List D)) (mg:D→FSt→Option FSt) (mt:FSt→Option Bool) (me:FSt→Option D):FSt→Option SV:=fun S=>
 (mi S).bind fun its=>if its.length≤sizeLine then (compM mg mt me its (compS own fi S)).map SV.li else none
@[simp] def mTrue:FSt→Option Bool:=fun _=>some true
section
variable {B:Bk} {wi:TI} {mi:FSt→Option (List D)} {g:TG} {mg:D→FSt→Option FSt} {tt:TT} {mt:FSt→Option Bool} {te:TE} {me:FSt→Option D} {own:Nat} {fi L:List Nat}
theorem ft_true:FT B tTrue mTrue:=fun S σ H F os Q c r e k=>by cases e; exact k H F Al.refl r
def FIc (B:Bk) (wi:TI) (L:List Nat) (m:FSt→Option (List D)):Prop:=
 ∀ (S:FSt) (σ:St) (H:Hp) (F:Addr→Prop) (os:Nat→List Addr) (R:It→Hp→Prop) (its:List D),Rep B H F σ S os→m S=some its→
  (∀ J H' F',Al H F H' F'→Rep B H' F' σ S os→Walks B J H' (orF F' (osL os L)) its→R J H')→wi σ H R
theorem FI.c (h:FI B wi mi):FIc B wi [] mi:=fun S σ H F os R its r e k=>h S σ H F os R its r e fun J H' F' a r' w=>k J H' F' a r' fun H2 F2 k2 up=>w H2 F2 (fun b o f e=>k2 b o (.inl f) e) fun b f=>up b (.inl f)
@[simp] def mItc (m:FSt→Option D):FSt→Option (List D):=fun S=>(m S).bind itemsD
theorem fic_seq {K:W.Frag} (hK:B.K=K) (he:FD B te L me):FIc B (iSeq K te) L (mItc me):=by
 subst hK
 intro S σ H F os R its r e k
 obtain ⟨d,ed,ef⟩:=bind1 e
 cases d with
 | lst ds=>
  cases ef
  refine .inl (he S σ H F os _ _ r ed fun v H' F' al r' da=>?_)
  cases da with
  | lst h q=>exact ⟨_,rfl,⟨_,h.sq⟩,k _ H' F' al r' (walks_lst (fun H2 kk=>.inl (.inl (kk _ _ h.1 h.2))) q)⟩
 | fz ds=>
  cases ef
  refine .inl (he S σ H F os _ _ r ed fun v H' F' al r' da=>?_)
  cases da with
  | fz h q=>exact ⟨_,rfl,⟨_,h.sq⟩,k _ H' F' al r' (walks_lst (fun H2 kk=>(h.keep kk fun _ z=>z).sq) q)⟩
 | tup ds=>
  cases ef
  refine .inr (.inl (he S σ H F os _ _ r ed fun v H' F' al r' da=>?_))
  cases da with
  | tup h q=>exact ⟨_,rfl,⟨_,h.sq⟩,k _ H' F' al r' (walks_tup (fun H2 kk=>.inl (.inl (kk _ _ h.1 h.2))) q)⟩
 | kt ds=>
  cases ef
  refine .inr (.inl (he S σ H F os _ _ r ed fun v H' F' al r' da=>?_))
  cases da with
  | kt h q=>exact ⟨_,rfl,⟨_,h.sq⟩,k _ H' F' al r' (walks_tup (fun H2 kk=>h.sq) q)⟩
 | str z=>
  cases ef
  refine .inr (.inr (he S σ H F os _ _ r ed fun v H' F' al r' da=>?_))
  cases da
  exact ⟨_,rfl,k _ H' F' al r' (walks_str z)⟩
 | _=>cases ef
theorem comp_start {H:Hp} {F:Addr→Prop} {σ:St} {S:FSt} {os:Nat→List Addr} (r:Rep B H F σ S os) (own:Nat) (fi Li:List Nat):Rep B H (orF F (osL os (fi++Li))) (compSt own fi σ) (compS own fi S) (fun _=>[]):=by
 refine ⟨fun i x h=>?_,fun i _=>rfl,fun i j a e=>absurd e (by simp),r.gd (fi++Li),by simp [compSt,compS]⟩
 unfold compS at h
 by_cases hi:i < own
 ·rw [List.getElem?_append_left (by simpa using hi),List.getElem?_replicate,if_pos hi] at h
  cases h
 ·rw [List.getElem?_append_right (by simpa using hi),List.length_replicate,List.getElem?_map] at h
  unfold compSt
  rw [List.getElem?_append_right (by simpa using hi),List.length_replicate,List.getElem?_map]
  cases q:fi[i-own]? with
  | none=>rw [q] at h; cases h
  | some j=>
   rw [q] at h
   simp only [Option.map_some,Option.some.injEq] at h
   cases e:S[j]? with
   | none=>rw [e] at h; cases h
   | some z=>cases z with
    | none=>rw [e] at h; cases h
    | some y=>
     rw [e] at h; cases h
     obtain ⟨v,h1,h2⟩:=r.at' j y e
     refine ⟨v,by simp [h1],rfl,h2.frozen (fun b z=>.inl z) fun b z=>.inr ⟨j,List.mem_append_left _ (List.mem_of_getElem? q),z⟩⟩
theorem fe_comp {Li:List Nat} (hi:FIc B wi Li mi) (hg:FG B g mg) (ht:FT B tt mt) (he:FD B te L me):FE B (tComp wi g tt te own fi) (fi++Li) (mComp own fi mi mg mt me):=by
 intro S σ H F os Q x r e k
 obtain ⟨its,ei,ef⟩:=bind1 e
 split at ef
 case isFalse=>cases ef
 case isTrue hz=>
 cases ec:compM mg mt me its (compS own fi S) with
 | none=>rw [ec] at ef; cases ef
 | some ds=>
 rw [ec] at ef; cases ef
 refine hi S σ H F os _ its r ei fun J H1 F1 al r1 wk l hl=>?_
 have rc:=comp_start r1 own fi Li
 have al0:Al H1 (orF F1 (osL os (fi++Li))) (upd H1 l (.lst [])) (orF F1 (osL os (fi++Li))):=al_fresh hl
 have rc0:=rc.mono al0
 have nl0:¬ orF F1 (osL os (fi++Li)) l:=fun z=>r1.gd (fi++Li) l z hl
 refine ⟨fun i m σ' H'=>i≤its.length∧m=its.length-i∧∃ S' G xs acc rest,Rep B H' G σ' S' (fun _=>[])∧Al H1 (orF F1 (osL os (fi++Li))) H' G∧H' l=some (.lst xs)∧¬ G l∧DAs B H' G xs acc∧acc.length≤i∧
   compM mg mt me (its.drop i) S'=some rest∧acc++rest=ds,
  ⟨_,Nat.zero_le _,rfl,_,_,[],[],ds,rc0,al0,upd_same,nl0,.nil,Nat.zero_le _,by simpa using ec,rfl⟩,?_⟩
 rintro i m σ' H' ⟨hi,hm,S',G,xs,acc,rest,r',a',hl',nl',da',la,ec',ea⟩
 have w2:=wk H' G (fun b o f e=>a'.same b o e) (fun b f=>a'.up b (orF_sub (fun _ z=>z) (fun i h=>List.mem_append_right _ h) b f))
 cases q:its[i]? with
 | none=>
  have hle:its.length≤i:=List.getElem?_eq_none_iff.mp q
  rw [List.drop_eq_nil_of_le hle] at ec'
  cases ec'
  rw [List.append_nil] at ea
  subst ea
  refine .inl ⟨w2.2 i hle,?_⟩
  have a1:Al H1 (orF F1 (osL os (fi++Li))) H' G:=a'
  have va:VA B H' G (.ref l) (.li acc) [l]:=⟨l,xs,rfl,rfl,nl',hl',da'⟩
  have fr1:∀ b,b∈[l]→H1 b=none:=fun b hb=>by rw [List.mem_singleton.mp hb]; exact hl
  obtain ⟨F2,al2,r2,va2⟩:=ve_split r1 a1 va fr1
  refine k (.ref l) H' F2 [l] (al.trans al2) r2 va2 fun b hb=>?_
  cases qq:H b with
  | none=>rfl
  | some w=>have:=fr1 b hb; rw [al.same b w qq] at this; cases this
 | some d=>
  have hlt:i < its.length:=(List.getElem?_eq_some_iff.mp q).1
  have hd:its.drop i=d :: its.drop (i+1):=by
   rw [List.drop_eq_getElem_cons hlt]
   have:its[i]=d:=(List.getElem?_eq_some_iff.mp q).2
   rw [this]
  rw [hd,compM] at ec'
  obtain ⟨go,yl⟩:=w2.1 i d q
  refine .inr ⟨go,fun σ'' H''=>i+1≤its.length∧∃ S' G xs acc rest,Rep B H'' G σ'' S' (fun _=>[])∧Al H1 (orF F1 (osL os (fi++Li))) H'' G∧H'' l=some (.lst xs)∧¬ G l∧DAs B H'' G xs acc∧acc.length≤i+1∧
   compM mg mt me (its.drop (i+1)) S'=some rest∧acc++rest=ds,fun σ'' H'' n=>⟨its.length-(i+1),by omega,n.1,rfl,n.2⟩,fun x H2 y=>?_⟩
  obtain ⟨G2,al2,da2⟩:=yl x H2 y
  have r2:=r'.mono al2
  obtain ⟨S1,e1,ec'⟩:=bind1 ec'
  obtain ⟨c,e2,ec'⟩:=bind1 ec'
  refine hg S' σ' H2 G2 _ x d S1 _ r2 da2 e1 fun σ2 os2 st2 r3=>?_
  have nos:∀ j,os2 j=[]:=fun j=>by
   cases qq:os2 j with
   | nil=>rfl
   | cons b _=>
    rcases st2.own j b (by rw [qq]; simp) with z | ⟨_,z⟩
    ·exact absurd z (r3.alive (i:=j) (a:=b) (by rw [qq]; simp)).1
    ·simp at z
  have eos:os2=fun _=>[]:=funext nos
  subst eos
  refine ht S1 σ2 H2 G2 _ _ c r3 e2 fun H3 G3 al3 r4=>?_
  have hl3:H3 l=some (.lst xs):=al3.same l _ (al2.same l _ hl')
  have nl3:¬ G3 l:=fun z=>by
   rcases al3.new l z with z | z | ⟨ys,z⟩
   ·rcases al2.new l z with z | z | ⟨ys,z⟩
    ·exact nl' z
    ·rw [hl'] at z; cases z.1
    ·rw [hl'] at z; cases z
   ·rw [al2.same l _ hl'] at z; cases z.1
   ·rw [al2.same l _ hl'] at z; cases z
  have da3:DAs B H3 G3 xs acc:=da'.mono (fun b o f e=>al3.same b o (al2.same b o e)) fun b f=>al3.up b (al2.up b f)
  cases c with
  | false=>
   rw [if_neg Bool.false_ne_true] at ec' ⊢
   exact ⟨hlt,S1,G3,xs,acc,rest,r4,(a'.trans al2).trans al3,hl3,nl3,da3,by omega,ec',ea⟩
  | true=>
   rw [if_pos rfl] at ec' ⊢
   obtain ⟨w,ew,ec'⟩:=bind1 ec'
   cases er:compM mg mt me (its.drop (i+1)) S1 with
   | none=>rw [er] at ec'; cases ec'
   | some rest'=>
    rw [er] at ec'; cases ec'
    refine he S1 σ2 H3 G3 _ _ w r4 ew fun y H4 G4 al4 r5 dy=>?_
    have hl4:H4 l=some (.lst xs):=al4.same l _ hl3
    have nl4:¬ G4 l:=fun z=>by
     rcases al4.new l z with z | z | ⟨ys,z⟩
     ·exact nl3 z
     ·rw [hl3] at z; cases z.1
     ·rw [hl3] at z; cases z
    have da4:DAs B H4 G4 xs acc:=da3.mono (fun b o f e=>al4.same b o e) al4.up
    have dy':DA B H4 G4 y w:=dy.mono (fun _ _ _ e=>e) fun b z=>by
     rcases z with z | ⟨_,_,z⟩
     ·exact z
     ·simp at z
    refine ⟨xs,hl4,by rw [da4.length]; omega,hlt,S1,G4,xs++[y],acc++[w],rest',?_,?_,upd_same,nl4,?_,?_,er,by simpa using ea⟩
    ·refine ⟨fun j x h=>?_,r5.out,r5.inj,fun b f=>?_,r5.len⟩
     ·obtain ⟨v,h1,h2⟩:=r5.at' j x h
      exact ⟨v,h1,h2.mono (fun b u f e=>by rw [upd_ne]; exact e; rintro rfl; exact nl4 f) (fun b u hb=>absurd hb (by simp)) (fun _ f=>f) fun b hb=>absurd hb (by simp)⟩
     ·unfold upd
      split
      ·simp
      ·exact r5.fd b f
    ·have a4:=((a'.trans al2).trans al3).trans al4
     refine ⟨fun b o e=>?_,a4.up,fun b z=>?_⟩
     ·rw [upd_ne (ne_of_none e hl)]; exact a4.same b o e
     ·rcases a4.new b z with z | z | z
      ·exact .inl z
      ·refine .inr (.inl ⟨z.1,?_⟩)
       unfold upd
       split
       ·simp
       ·exact z.2
      ·exact .inr (.inr z)
    ·exact (da4.append (.cons dy' .nil)).mono (fun b u f e=>by rw [upd_ne]; exact e; rintro rfl; exact nl4 f) fun _ f=>f
    ·simp; omega
end
end L2
namespace L2
open PySem PySem.Spec PyProof.Rows
@[simp] def fI {α:Type} (f:Int→Int→Option α):D→D→Option α
 | .int i,.int j=>f i j
 | _,_=>none
@[simp] def fI1 {α:Type} (f:Int→Option α):D→Option α
 | .int i=>f i
 | _=>none
section
variable {B:Bk}
theorem fI_some {α:Type} {f:Int→Int→Option α} {a b:D} {z:α} (h:fI f a b=some z):∃ i j,a=.int i∧b=.int j∧f i j=some z:=by
 unfold fI at h
 split at h
 ·exact ⟨_,_,rfl,rfl,h⟩
 ·cases h
theorem opd_I0 {g:Int→Int→V} {gd:Int→Int→D} (h:∀ i j,Sc (g i j) (gd i j)):OpD B (rI0 g) (fI fun i j=>some (gd i j)):=by
 intro H G x y dx dy z Q hx hy e k
 obtain ⟨i,j,rfl,rfl,e⟩:=fI_some e
 cases e; cases hx; cases hy
 exact ⟨i,j,rfl,rfl,k _ H G Al.refl (h i j).da⟩
theorem opd_I {C:Int→Int→Prop} [∀ i j,Decidable (C i j)] {g:Int→Int→V} {gd:Int→Int→D} (h:∀ i j,Sc (g i j) (gd i j)):OpD B (rI C g) (fI fun i j=>if C i j then some (gd i j) else none):=by
 intro H G x y dx dy z Q hx hy e k
 obtain ⟨i,j,rfl,rfl,e'⟩:=fI_some e
 clear e
 split at e'
 ·cases e'; cases hx; cases hy
  exact ⟨i,j,rfl,rfl,by assumption,k _ H G Al.refl (h i j).da⟩
 ·cases e'
theorem und_I {g:Int→V} {gd:Int→D} (h:∀ i,Sc (g i) (gd i)):UnD B (rU g) (fI1 fun i=>some (gd i)):=by
 intro H G x dx z Q hx e k
 unfold fI1 at e
 split at e
 ·cases e; cases hx; exact ⟨_,rfl,k _ H G Al.refl (h _).da⟩
 ·cases e
end
theorem cMul_ex:∃ f:Int→Int→Bool,∀ i j,f i j=true↔CMul i j:=⟨fun i j=>(decide (-(2 ^ 64) < i)&&decide (i < 2 ^ 64))||(decide (-(2 ^ 64) < j)&&decide (j < 2 ^ 64)),fun i j=>by simp only [CMul,Bool.or_eq_true,Bool.and_eq_true,decide_eq_true_eq]⟩
theorem cPow_ex:∃ f:Int→Int→Bool,∀ i j,f i j=true↔CPow i j:=⟨fun i j=>decide (0≤j)&&decide (j≤1000000)&&decide (i.natAbs < 2 ^ 64),fun i j=>by simp only [CPow,Bool.and_eq_true,decide_eq_true_eq,and_assoc]⟩
theorem cDiv_ex:∃ f:Int→Bool,∀ j,f j=true↔0 < j∧j < 2 ^ 200:=⟨fun j=>decide (0 < j∧j < 2 ^ 200),fun _=>decide_eq_true_iff⟩
noncomputable def cMulB:Int→Int→Bool:=Classical.choose cMul_ex
noncomputable def cPowB:Int→Int→Bool:=Classical.choose cPow_ex
noncomputable def cDivB:Int→Bool:=Classical.choose cDiv_ex
theorem cMul_iff {i j:Int}:cMulB i j=true↔CMul i j:=Classical.choose_spec cMul_ex i j
theorem cPow_iff {i j:Int}:cPowB i j=true↔CPow i j:=Classical.choose_spec cPow_ex i j
theorem cDiv_iff {j:Int}:cDivB j=true↔0 < j∧j < 2 ^ 200:=Classical.choose_spec cDiv_ex j
@[simp] theorem cMul_l {i j:Int} (h1:-18446744073709551616 < i) (h2:i < 18446744073709551616):cMulB i j=true:=cMul_iff.mpr (.inl ⟨by omega,by omega⟩)
@[simp] theorem cMul_r {i j:Int} (h1:-18446744073709551616 < j) (h2:j < 18446744073709551616):cMulB i j=true:=cMul_iff.mpr (.inr ⟨by omega,by omega⟩)
@[simp] theorem cDiv_of {j:Int} (h1:0 < j) (h2:j < 1606938044258990275541962092341162602522202993782792835301376):cDivB j=true:=cDiv_iff.mpr ⟨h1,by omega⟩
theorem opd_IB {C:Int→Int→Prop} {cb:Int→Int→Bool} (hc:∀ i j,cb i j=true→C i j) {B:Bk} {g:Int→Int→V} {gd:Int→Int→D} (h:∀ i j,Sc (g i j) (gd i j)):OpD B (rI C g) (fI fun i j=>if cb i j=true then some (gd i j) else none):=by
 intro H G x y dx dy z Q hx hy e k
 obtain ⟨i,j,rfl,rfl,e'⟩:=fI_some e
 clear e
 split at e'
 ·rename_i hb
  cases e'; cases hx; cases hy
  exact ⟨i,j,rfl,rfl,hc i j hb,k _ H G Al.refl (h i j).da⟩
 ·cases e'
abbrev oSub:D→D→Option D:=fI fun i j=>some (.int (i-j))
noncomputable abbrev oFdiv:D→D→Option D:=fI fun i j=>if cDivB j=true then some (.int (i / j)) else none
abbrev oMod:D→D→Option D:=fI fun i j=>if 0 < j then some (.int (i%j)) else none
noncomputable abbrev oShl:D→D→Option D:=fI fun i j=>if cPowB i j=true then some (.int (i*2 ^ j.toNat)) else none
abbrev oShr:D→D→Option D:=fI fun i j=>if 0≤j then some (.int (i / 2 ^ j.toNat)) else none
abbrev oAnd:D→D→Option D:=fI fun i j=>some (.int (Builtin.bitAnd i j))
abbrev oOr:D→D→Option D:=fI fun i j=>some (.int (Builtin.bitOr i j))
abbrev oLt:D→D→Option D:=fI fun i j=>some (.bl (decide (i < j)))
abbrev oLe:D→D→Option D:=fI fun i j=>some (.bl (decide (i≤j)))
abbrev oGt:D→D→Option D:=fI fun i j=>some (.bl (decide (j < i)))
abbrev oGe:D→D→Option D:=fI fun i j=>some (.bl (decide (j≤i)))
abbrev oNeg:D→Option D:=fI1 fun i=>some (.int (-i))
section
variable {B:Bk}
theorem od_sub:OpD B (rI0 fun i j=>.int (i-j)) oSub:=opd_I0 fun _ _=>.int _
theorem od_fdiv:OpD B (rI (fun _ j=>0 < j∧j < 2 ^ 200) fun i j=>.int (i / j)) oFdiv:=opd_IB (fun _ _ h=>cDiv_iff.mp h) fun _ _=>.int _
theorem od_mod:OpD B (rI (fun _ j=>0 < j) fun i j=>.int (i%j)) oMod:=opd_I fun _ _=>.int _
theorem od_shl:OpD B (rI CPow fun i j=>.int (i*2 ^ j.toNat)) oShl:=opd_IB (fun _ _ h=>cPow_iff.mp h) fun _ _=>.int _
theorem od_shr:OpD B (rI (fun _ j=>0≤j) fun i j=>.int (i / 2 ^ j.toNat)) oShr:=opd_I fun _ _=>.int _
theorem od_and:OpD B (rI0 fun i j=>.int (Builtin.bitAnd i j)) oAnd:=opd_I0 fun _ _=>.int _
theorem od_or:OpD B (rI0 fun i j=>.int (Builtin.bitOr i j)) oOr:=opd_I0 fun _ _=>.int _
theorem od_lt:OpD B (rI0 fun i j=>.bl (decide (i < j))) oLt:=opd_I0 fun _ _=>.bl _
theorem od_le:OpD B (rI0 fun i j=>.bl (decide (i≤j))) oLe:=opd_I0 fun _ _=>.bl _
theorem od_gt:OpD B (rI0 fun i j=>.bl (decide (j < i))) oGt:=opd_I0 fun _ _=>.bl _
theorem od_ge:OpD B (rI0 fun i j=>.bl (decide (j≤i))) oGe:=opd_I0 fun _ _=>.bl _
theorem od_neg:UnD B (rU fun i=>.int (-i)) oNeg:=und_I fun _=>.int _
end
@[simp] def oAdd:D→D→Option SV
 | .int i,.int j=>some (.sh (.int (i+j)))
 | .str a,.str b=>if a.length+b.length≤sizeLine then some (.sh (.str (a++b))) else none
 | .lst xs,.lst ys=>if xs.length+ys.length≤sizeLine then some (.li (xs++ys)) else none
 | .tup xs,.tup ys=>if xs≠[]∧ys≠[]∧xs.length+ys.length≤sizeLine then some (.sh (.tup (xs++ys))) else none
 | _,_=>none
@[simp] noncomputable def oMul:D→D→Option SV
 | .int i,.int j=>if cMulB i j=true then some (.sh (.int (i*j))) else none
 | .lst xs,.int k=>if -(2 ^ 63)≤k∧k < 2 ^ 63∧xs.length*k.toNat≤sizeLine then some (.li (List.replicate k.toNat xs).flatten) else none
 | _,_=>none
section
variable {B:Bk}
theorem DAs.rep {H:Hp} {F:Addr→Prop} {vs:List V} {ds:List D} (h:DAs B H F vs ds):∀ n,DAs B H F (List.replicate n vs).flatten (List.replicate n ds).flatten
 | 0=>.nil
 | n+1=>by simpa [List.replicate_succ] using h.append (DAs.rep h n)
theorem new_li {H:Hp} {G:Addr→Prop} {p:Addr} {vs:List V} {ds:List D} {Q:VK} (hg:∀ b,G b→H b≠none) (hp:H p=none) (da:DAs B H G vs ds)
  (k:∀ v H' G' o,Al H G H' G'→VA B H' G' v (.li ds) o→(∀ a,a∈o→H a=none)→Q v H'):Q (.ref p) (upd H p (.lst vs)):=by
 have al:=al_fresh (F:=G) (u:=.lst vs) hp
 exact k (.ref p) _ G [p] al ⟨p,vs,rfl,rfl,fun z=>hg p z hp,upd_same,da.mono (fun b o _ e=>al.same b o e) fun _ z=>z⟩ fun a ha=>by rw [List.mem_singleton.mp ha]; exact hp
theorem new_tup {H:Hp} {G:Addr→Prop} {p:Addr} {vs:List V} {ds:List D} {Q:VK} (hp:H p=none) (da:DAs B H G vs ds)
  (k:∀ v H' G' o,Al H G H' G'→VA B H' G' v (.sh (.tup ds)) o→(∀ a,a∈o→H a=none)→Q v H'):Q (.ref p) (upd H p (.tup vs)):=by
 have al:=al_fresh' (F:=G) (u:=.tup vs) hp
 exact k (.ref p) _ _ [] al ⟨rfl,.tup ⟨.inr rfl,upd_same⟩ (da.mono (fun b o _ e=>al.same b o e) fun _ z=>.inl z)⟩ fun a ha=>absurd ha (by simp)
theorem e_add {K:W.Frag} (hK:B.K=K):OpE B (rAddG K) oAdd:=by
 subst hK
 intro H G x y dx dy z Q hg hx hy e k
 unfold oAdd at e
 split at e
 ·cases e; cases hx; cases hy
  exact .inl ⟨_,_,rfl,rfl,k _ H G [] Al.refl ⟨rfl,.int _⟩ (by simp)⟩
 ·split at e
  ·cases e; cases hx; cases hy
   exact .inr (.inl ⟨_,_,rfl,rfl,by assumption,k _ H G [] Al.refl ⟨rfl,.str _⟩ (by simp)⟩)
  ·cases e
 ·split at e
  ·rename_i hl
   cases e
   cases hx with
   | lst h1 r1=>cases hy with
    | lst h2 r2=>exact .inr (.inr (.inl ⟨_,_,_,_,rfl,rfl,h1.2,h2.2,by rw [r1.length,r2.length]; exact hl,fun p hp=>new_li hg hp (r1.append r2) k⟩))
  ·cases e
 ·split at e
  ·rename_i hl
   cases e
   cases hx with
   | tup h1 r1=>cases hy with
    | tup h2 r2=>
     have nx:∀ {vs:List V} {ds:List D},DAs B H G vs ds→ds≠[]→vs≠[]:=fun r n z=>by subst z; cases r; exact n rfl
     exact .inr (.inr (.inr ⟨_,_,_,_,rfl,rfl,h1.sq,h2.sq,nx r1 hl.1,by rw [r1.length,r2.length]; exact hl.2.2,fun z=>absurd z (nx r2 hl.2.1),fun _ p hp=>new_tup hp (r1.append r2) k⟩))
  ·cases e
 ·cases e
theorem e_mul:OpE B rMulG oMul:=by
 intro H G x y dx dy z Q hg hx hy e k
 unfold oMul at e
 split at e
 ·split at e
  ·rename_i hb
   cases e; cases hx; cases hy
   exact .inl ⟨_,_,rfl,rfl,cMul_iff.mp hb,k _ H G [] Al.refl ⟨rfl,.int _⟩ (by simp)⟩
  ·cases e
 ·split at e
  ·rename_i hl
   cases e; cases hy
   cases hx with
   | lst h1 r1=>exact .inr ⟨_,_,_,rfl,rfl,h1.2,hl.1,hl.2.1,by rw [r1.length]; exact hl.2.2,fun p hp=>new_li hg hp (r1.rep _) k⟩
  ·cases e
 ·cases e
end
mutual
def D.dat:D→Option PyData
 | .non=>some .none
 | .bl b=>some (.bool b)
 | .int i=>some (.int i)
 | .str x=>some (.str x)
 | .tup xs=>(D.dats xs).map .tuple
 | .kt xs=>(D.dats xs).map .tuple
 | .lst xs=>(D.dats xs).map .list
 | .fz xs=>(D.dats xs).map .list
 | _=>none
def D.dats:List D→Option (List PyData)
 | []=>some []
 | d :: r=>(D.dat d).bind fun p=>(D.dats r).map fun ps=>p :: ps
end
section
variable {B:Bk} {H:Hp} {F:Addr→Prop}
mutual
theorem DA.dat:∀ {v:V} {d:D} {p:PyData},DA B H F v d→d.dat=some p→DAt B.K H v p
 | _,_,_,.non,e=>by simp [D.dat] at e; subst e; exact .non
 | _,_,_,.bl b,e=>by simp [D.dat] at e; subst e; exact .bl b
 | _,_,_,.int i,e=>by simp [D.dat] at e; subst e; exact .int i
 | _,_,_,.str x,e=>by simp [D.dat] at e; subst e; exact .str x
 | _,_,_,.tup h r,e=>by
  simp only [D.dat,Option.map_eq_some_iff] at e
  obtain ⟨ps,e1,rfl⟩:=e
  exact .tup h.sq (DAs.dats r e1)
 | _,_,_,.kt h r,e=>by
  simp only [D.dat,Option.map_eq_some_iff] at e
  obtain ⟨ps,e1,rfl⟩:=e
  exact .tup h.sq (DAs.dats r e1)
 | _,_,_,.lst h r,e=>by
  simp only [D.dat,Option.map_eq_some_iff] at e
  obtain ⟨ps,e1,rfl⟩:=e
  exact .lst h.sq (DAs.dats r e1)
 | _,_,_,.fz h r,e=>by
  simp only [D.dat,Option.map_eq_some_iff] at e
  obtain ⟨ps,e1,rfl⟩:=e
  exact .lst h.sq (DAs.dats r e1)
 | _,_,_,.ty n,e=>by simp [D.dat] at e
 | _,_,_,.adr a,e=>by simp [D.dat] at e
 | _,_,_,.cls _,e=>by simp [D.dat] at e
 | _,_,_,.dK _ _ _ _,e=>by simp [D.dat] at e
 | _,_,_,.dT _ _ _ _,e=>by simp [D.dat] at e
 | _,_,_,.dZ _ _ _ _,e=>by simp [D.dat] at e
 | _,_,_,.ins _ _ _ _,e=>by simp [D.dat] at e
theorem DAs.dats:∀ {vs:List V} {ds:List D} {ps:List PyData},DAs B H F vs ds→D.dats ds=some ps→DAts B.K H vs ps
 | _,_,_,.nil,e=>by simp [D.dats] at e; subst e; exact .nil
 | _,_,_,.cons h r,e=>by
  simp only [D.dats,Option.bind_eq_some_iff,Option.map_eq_some_iff] at e
  obtain ⟨p,e1,ps,e2,rfl⟩:=e
  exact .cons (DA.dat h e1) (DAs.dats r e2)
end
end
def shp (d:D):Option PyData:=d.dat.bind fun p=>if SeqAt.shaped p=true then some p else none
def oEq:D→D→Option D:=fun a b=>(shp a).bind fun p=>(shp b).bind fun q=>some (.bl (PyData.eqv p q))
def oNe:D→D→Option D:=fun a b=>(shp a).bind fun p=>(shp b).bind fun q=>some (.bl (!PyData.eqv p q))
theorem shp_some {d:D} {p:PyData} (h:shp d=some p):d.dat=some p∧SeqAt.shaped p=true:=by
 obtain ⟨q,e,h⟩:=bind1 h
 split at h
 ·cases h; exact ⟨e,by assumption⟩
 ·cases h
section
variable {B:Bk} {K:W.Frag}
theorem od_eq (hK:B.K=K):OpD B (rEqD K) oEq:=by
 subst hK
 intro H G x y dx dy z Q hx hy e k
 obtain ⟨p,q,e1,e2,e3⟩:=bind2 e
 cases e3
 exact ⟨p,q,hx.dat (shp_some e1).1,hy.dat (shp_some e2).1,(shp_some e1).2,(shp_some e2).2,k _ H G Al.refl (.bl _)⟩
theorem od_ne (hK:B.K=K):OpD B (rNeD K) oNe:=by
 subst hK
 intro H G x y dx dy z Q hx hy e k
 obtain ⟨p,q,e1,e2,e3⟩:=bind2 e
 cases e3
 exact ⟨p,q,hx.dat (shp_some e1).1,hy.dat (shp_some e2).1,(shp_some e1).2,(shp_some e2).2,k _ H G Al.refl (.bl _)⟩
def inB:D→D→Option Bool
 | .str a,.str b=>some (!(Builtin.Str.occurrences b a 0 b.length 1).isEmpty)
 | x,.lst ys=>(D.dats ys).bind fun ps=>(shp x).bind fun p=>if SeqAt.shaped (.list ps)=true then some (ps.any fun e=>PyData.eqv e p) else none
 | x,.fz ys=>(D.dats ys).bind fun ps=>(shp x).bind fun p=>if SeqAt.shaped (.list ps)=true then some (ps.any fun e=>PyData.eqv e p) else none
 | x,.tup ys=>(D.dats ys).bind fun ps=>(shp x).bind fun p=>if SeqAt.shaped (.list ps)=true then some (ps.any fun e=>PyData.eqv e p) else none
 | x,.kt ys=>(D.dats ys).bind fun ps=>(shp x).bind fun p=>if SeqAt.shaped (.list ps)=true then some (ps.any fun e=>PyData.eqv e p) else none
 | _,_=>none
def oIn:D→D→Option D:=fun x y=>(inB x y).map fun b=>.bl b
def oNotIn:D→D→Option D:=fun x y=>(inB x y).map fun b=>.bl (!b)
theorem in_core {H:Hp} {G:Addr→Prop} {x y:V} {dx dy:D} {c:Bool} (hx:DA B H G x dx) (hy:DA B H G y dy) (e:inB dx dy=some c) :
  (∃ i j,x=.str i∧y=.str j∧c=(!(Builtin.Str.occurrences j i 0 j.length 1).isEmpty))∨∃ ds d,(DAt B.K H y (.list ds)∨DAt B.K H y (.tuple ds))∧DAt B.K H x d∧SeqAt.shaped (.list ds)=true∧SeqAt.shaped d=true∧c=(ds.any fun e=>PyData.eqv e d):=by
 have fin:∀ {ys:List D} {vs:List V},DAs B H G vs ys→(∀ ps,DAts B.K H vs ps→DAt B.K H y (.list ps)∨DAt B.K H y (.tuple ps))→((D.dats ys).bind fun ps=>(shp dx).bind fun p=>if SeqAt.shaped (.list ps)=true then some (ps.any fun e=>PyData.eqv e p) else none)=some c→
   ∃ ds d,(DAt B.K H y (.list ds)∨DAt B.K H y (.tuple ds))∧DAt B.K H x d∧SeqAt.shaped (.list ds)=true∧SeqAt.shaped d=true∧c=(ds.any fun e=>PyData.eqv e d):=fun r mk e=>by
  obtain ⟨ps,p,e1,e2,e3⟩:=bind2 e
  split at e3
  ·cases e3
   exact ⟨ps,p,mk ps (r.dats e1),hx.dat (shp_some e2).1,by assumption,(shp_some e2).2,rfl⟩
  ·cases e3
 unfold inB at e
 split at e
 ·cases e; cases hx; cases hy; exact .inl ⟨_,_,rfl,rfl,rfl⟩
 ·cases hy with
  | lst h r=>exact .inr (fin r (fun ps q=>.inl (.lst h.sq q)) e)
 ·cases hy with
  | fz h r=>exact .inr (fin r (fun ps q=>.inl (.lst h.sq q)) e)
 ·cases hy with
  | tup h r=>exact .inr (fin r (fun ps q=>.inr (.tup h.sq q)) e)
 ·cases hy with
  | kt h r=>exact .inr (fin r (fun ps q=>.inr (.tup h.sq q)) e)
 ·cases e
theorem od_in (hK:B.K=K):OpD B (rInE K) oIn:=by
 subst hK
 intro H G x y dx dy z Q hx hy e k
 unfold oIn at e
 rw [Option.map_eq_some_iff] at e
 obtain ⟨c,e1,rfl⟩:=e
 rcases in_core hx hy e1 with ⟨i,j,rfl,rfl,rfl⟩ | ⟨ds,d,h1,h2,h3,h4,rfl⟩
 ·exact .inl ⟨i,j,rfl,rfl,k _ H G Al.refl (.bl _)⟩
 ·exact .inr ⟨ds,d,h1,h2,h3,h4,k _ H G Al.refl (.bl _)⟩
theorem od_notIn (hK:B.K=K):OpD B (rNotInE K) oNotIn:=by
 subst hK
 intro H G x y dx dy z Q hx hy e k
 unfold oNotIn at e
 rw [Option.map_eq_some_iff] at e
 obtain ⟨c,e1,rfl⟩:=e
 rcases in_core hx hy e1 with ⟨i,j,rfl,rfl,rfl⟩ | ⟨ds,d,h1,h2,h3,h4,rfl⟩
 ·exact .inl ⟨i,j,rfl,rfl,k _ H G Al.refl (.bl _)⟩
 ·exact .inr ⟨ds,d,h1,h2,h3,h4,k _ H G Al.refl (.bl _)⟩
@[simp] def oIx:D→D→Option D
 | .lst xs,.int i=>atI xs i
 | .tup xs,.int i=>atI xs i
 | .kt xs,.int i=>atI xs i
 | .fz xs,.int i=>atI xs i
 | .str z,.int i=>if z.length≤sizeLine then (atI z.cps.toList i).map fun c=>.str ⟨#[c]⟩ else none
 | _,_=>none
theorem atI_rel {H:Hp} {G:Addr→Prop} {vs:List V} {ds:List D} {i:Int} {d:D} (r:DAs B H G vs ds) (e:atI ds i=some d):∃ v,atI vs i=some v∧DA B H G v d:=by
 unfold atI at e ⊢
 obtain ⟨j,e1,e2⟩:=bind1 e
 rw [r.length,e1]
 exact r.get e2
theorem od_ix (hK:B.K=K):OpD B (rIx K) oIx:=by
 subst hK
 intro H G x y dx dy z Q hx hy e k
 unfold oIx at e
 split at e
 ·cases hy
  cases hx with
  | lst h r=>obtain ⟨v,e1,d1⟩:=atI_rel r e; exact .inl ⟨_,_,_,v,rfl,rfl,h.sq,e1,k v H G Al.refl d1⟩
 ·cases hy
  cases hx with
  | tup h r=>obtain ⟨v,e1,d1⟩:=atI_rel r e; exact .inr (.inl ⟨_,_,_,v,rfl,rfl,h.sq,e1,k v H G Al.refl d1⟩)
 ·cases hy
  cases hx with
  | kt h r=>obtain ⟨v,e1,d1⟩:=atI_rel r e; exact .inr (.inl ⟨_,_,_,v,rfl,rfl,h.sq,e1,k v H G Al.refl d1⟩)
 ·cases hy
  cases hx with
  | fz h r=>obtain ⟨v,e1,d1⟩:=atI_rel r e; exact .inl ⟨_,_,_,v,rfl,rfl,h.sq,e1,k v H G Al.refl d1⟩
 ·split at e
  ·rw [Option.map_eq_some_iff] at e
   obtain ⟨c,e1,rfl⟩:=e
   cases hx; cases hy
   exact .inr (.inr ⟨_,_,c,rfl,rfl,by assumption,e1,k _ H G Al.refl (.str _)⟩)
  ·cases e
 ·cases e
def rLenF (K:W.Frag):List V→Hp→VK→Prop:=fun xs H Q=>rLenE K xs H Q∨(∃ a kvs,xs=[V.ref a]∧H a=some (.dK kvs)∧Q (.int kvs.length) H)∨rLenZ xs H Q
theorem call_lenF {X:Cx} (hK:X.K=K):CallR X (.builtin "len") (rLenF K):=(call_lenE hK).or (call_lenD.or call_lenZ)
@[simp] def fLen:List D→Option SV
 | [.lst xs]=>some (.sh (.int xs.length))
 | [.tup xs]=>some (.sh (.int xs.length))
 | [.kt xs]=>some (.sh (.int xs.length))
 | [.fz xs]=>some (.sh (.int xs.length))
 | [.str z]=>if z.length≤sizeLine then some (.sh (.int z.length)) else none
 | [.dT kvs]=>some (.sh (.int kvs.length))
 | [.dK kvs]=>some (.sh (.int kvs.length))
 | [.dZ kvs]=>some (.sh (.int kvs.length))
 | _=>none
theorem c_len (hK:B.K=K):CallE B (rLenF K) fLen:=by
 subst hK
 intro H G vs ds z Q hg hd e k
 unfold fLen at e
 split at e
 ·cases e
  obtain ⟨v,rfl,d1⟩:=hd.one
  cases d1 with
  | lst h r=>exact .inl (.inl ⟨_,_,rfl,.inl ⟨_,h.sq,rfl⟩,by rw [r.length]; exact k _ H G [] Al.refl ⟨rfl,.int _⟩ (by simp)⟩)
 ·cases e
  obtain ⟨v,rfl,d1⟩:=hd.one
  cases d1 with
  | tup h r=>exact .inl (.inl ⟨_,_,rfl,.inr ⟨_,h.sq,rfl⟩,by rw [r.length]; exact k _ H G [] Al.refl ⟨rfl,.int _⟩ (by simp)⟩)
 ·cases e
  obtain ⟨v,rfl,d1⟩:=hd.one
  cases d1 with
  | kt h r=>exact .inl (.inl ⟨_,_,rfl,.inr ⟨_,h.sq,rfl⟩,by rw [r.length]; exact k _ H G [] Al.refl ⟨rfl,.int _⟩ (by simp)⟩)
 ·cases e
  obtain ⟨v,rfl,d1⟩:=hd.one
  cases d1 with
  | fz h r=>exact .inl (.inl ⟨_,_,rfl,.inl ⟨_,h.sq,rfl⟩,by rw [r.length]; exact k _ H G [] Al.refl ⟨rfl,.int _⟩ (by simp)⟩)
 ·split at e
  ·cases e
   obtain ⟨v,rfl,d1⟩:=hd.one
   cases d1
   exact .inl (.inl ⟨_,_,rfl,⟨by assumption,rfl⟩,k _ H G [] Al.refl ⟨rfl,.int _⟩ (by simp)⟩)
  ·cases e
 ·cases e
  obtain ⟨v,rfl,d1⟩:=hd.one
  cases d1 with
  | @dT a kvs _ f h ek r=>
   have hl:=congrArg List.length ek
   rw [List.length_map,List.length_map] at hl
   exact .inl (.inr ⟨_,_,rfl,h,by rw [hl]; exact k _ H G [] Al.refl ⟨rfl,.int _⟩ (by simp)⟩)
 ·cases e
  obtain ⟨v,rfl,d1⟩:=hd.one
  cases d1 with
  | @dK a kvs _ f h ek r=>
   have hl:=congrArg List.length ek
   rw [List.length_map,List.length_map] at hl
   exact .inr (.inl ⟨_,_,rfl,h,by rw [hl]; exact k _ H G [] Al.refl ⟨rfl,.int _⟩ (by simp)⟩)
 ·cases e
  obtain ⟨v,rfl,d1⟩:=hd.one
  cases d1 with
  | @dZ a o kvs _ f h ek r=>
   have hl:=congrArg List.length ek
   rw [List.length_map,List.length_map] at hl
   exact .inr (.inr ⟨_,_,_,rfl,h,by rw [hl]; exact k _ H G [] Al.refl ⟨rfl,.int _⟩ (by simp)⟩)
 ·cases e
@[simp] def D.kind:D→Option String
 | .non=>some "NoneType"
 | .bl _=>some "bool"
 | .int _=>some "int"
 | .str _=>some "str"
 | .lst _=>some "list"
 | .tup _=>some "tuple"
 | .dK _=>some "dict"
 | .dT _=>some "dict"
 | _=>none
def kitB (t n:String):Option Bool:=if n∈["int","str","bool","list","tuple","dict"] then some (t==n||(t=="bool"&&n=="int")) else none
@[simp] def fIsi:List D→Option SV
 | [d,.ty n]=>d.kind.bind fun t=>(kitB t n).map fun b=>.sh (.bl b)
 | _=>none
theorem DA.kind {H:Hp} {G:Addr→Prop} {v:V} {d:D} {t:String} (h:DA B H G v d) (e:d.kind=some t):TyOf B.K H v (.type t)∧t∈["NoneType","bool","int","str","list","tuple","dict"]:=by
 cases h with
 | non=>cases e; exact ⟨.non,by simp⟩
 | bl b=>cases e; exact ⟨.bl b,by simp⟩
 | int i=>cases e; exact ⟨.int i,by simp⟩
 | str x=>cases e; exact ⟨.str x,by simp⟩
 | lst h r=>cases e; exact ⟨.lst h.2,by simp⟩
 | tup h r=>cases e; exact ⟨.tup h.2,by simp⟩
 | dK f h _ _=>cases e; exact ⟨.dK h,by simp⟩
 | dT f h _ _=>cases e; exact ⟨.dT h,by simp⟩
 | _=>cases e
theorem kit_eq {K:W.Frag} {t n:String} {b:Bool} (ht:t∈["NoneType","bool","int","str","list","tuple","dict"]) (e:kitB t n=some b):W.kitOne K (.type t) (.type n)=some b:=by
 unfold kitB at e
 split at e
 ·rename_i hn
  cases e
  simp only [List.mem_cons,List.not_mem_nil,or_false] at ht hn
  rcases ht with rfl | rfl | rfl | rfl | rfl | rfl | rfl <;> rcases hn with rfl | rfl | rfl | rfl | rfl | rfl <;> rfl
 ·cases e
theorem c_isi (hK:B.K=K):CallE B (rIsinst K) fIsi:=by
 subst hK
 intro H G vs ds z Q hg hd e k
 unfold fIsi at e
 split at e
 ·rename_i d n
  obtain ⟨t,e1,e2⟩:=bind1 e
  rw [Option.map_eq_some_iff] at e2
  obtain ⟨b,e3,rfl⟩:=e2
  obtain ⟨v,w,rfl,d1,d2⟩:=hd.two
  cases d2
  obtain ⟨h1,h2⟩:=d1.kind e1
  exact ⟨v,n,_,b,rfl,h1,kit_eq h2 e3,k _ H G [] Al.refl ⟨rfl,.bl _⟩ (by simp)⟩
 ·cases e
end
end L2
namespace L2
open PySem PySem.Spec PyProof.Rows
def FO (B:Bk) (t:TO) (m:FSt→Option (Option Int)):Prop:=
 ∀ (S:FSt) (σ:St) (H:Hp) (F:Addr→Prop) (os:Nat→List Addr) (Q:Option Int→Hp→Prop) (c:Option Int),Rep B H F σ S os→m S=some c→
  (∀ H' F',Al H F H' F'→Rep B H' F' σ S os→Q c H')→t σ H Q
@[simp] def mNo:FSt→Option (Option Int):=fun _=>some none
@[simp] def mAt (m:FSt→Option D):FSt→Option (Option Int):=fun S=>(m S).bind fun d=>match d with
 | .int i=>some (some i)
 | _=>none
def cutG {α:Type} (xs:List α) (lo hi:Option Int):List α:=(xs.drop (HT.sIx xs.length 0 lo)).take (HT.sIx xs.length xs.length hi-HT.sIx xs.length 0 lo)
@[simp] def oSl:D→Option Int→Option Int→Option SV
 | .lst xs,lo,hi=>some (.li (cutG xs lo hi))
 | .fz xs,lo,hi=>some (.li (cutG xs lo hi))
 | .str z,lo,hi=>if z.length≤sizeLine then some (.sh (.str (Txt.slice z lo hi))) else none
 | .tup xs,lo,hi=>if HT.sIx xs.length 0 lo=0∧HT.sIx xs.length xs.length hi=xs.length then none else some (.sh (.tup (cutG xs lo hi)))
 | .kt xs,lo,hi=>if HT.sIx xs.length 0 lo=0∧HT.sIx xs.length xs.length hi=xs.length then none else some (.sh (.tup (cutG xs lo hi)))
 | _,_,_=>none
@[simp] def mSl (a:FSt→Option D) (l h:FSt→Option (Option Int)):FSt→Option SV:=fun S=>(a S).bind fun d=>(l S).bind fun lo=>(h S).bind fun hi=>oSl d lo hi
section
variable {B:Bk} {te:TE} {L:List Nat} {md:FSt→Option D} {tl th:TO} {ml mh:FSt→Option (Option Int)} {K:W.Frag}
theorem fo_none:FO B tNoPart mNo:=fun S σ H F os Q c r e k=>by cases e; exact k H F Al.refl r
theorem fo_some (h:FD B te L md):FO B (tPart te) (mAt md):=by
 intro S σ H F os Q c r e k
 obtain ⟨d,e1,e2⟩:=bind1 e
 refine h S σ H F os _ d r e1 fun v H' F' a r' da=>?_
 cases d with
 | int i=>cases e2; cases da; exact ⟨_,rfl,k H' F' a r'⟩
 | _=>cases e2
theorem DAs.cut {H:Hp} {F:Addr→Prop} {vs:List V} {ds:List D} (r:DAs B H F vs ds) (lo hi:Option Int):DAs B H F (cutV vs lo hi) (cutG ds lo hi):=by
 unfold cutV cutG
 rw [r.length]
 exact (r.drop _).take _
theorem fe_sl (hK:B.K=K) (he:FD B te L md) (hl:FO B tl ml) (hh:FO B th mh):FE B (tSl (rSlE K) te tl th) L (mSl md ml mh):=by
 subst hK
 intro S σ H F os Q z r e k
 obtain ⟨d,e1,e⟩:=bind1 e
 obtain ⟨lo,e2,e⟩:=bind1 e
 obtain ⟨hi,e3,e⟩:=bind1 e
 refine he S σ H F os _ d r e1 fun v H1 F1 a1 r1 d1=>hl S σ H1 F1 os _ lo r1 e2 fun H2 F2 a2 r2=>hh S σ H2 F2 os _ hi r2 e3 fun H3 F3 a3 r3=>?_
 have d3:DA B H3 (orF F3 (osL os L)) v d:=(d1.later a2 fun _ h=>h).later a3 fun _ h=>h
 have al:=(a1.trans a2).trans a3
 have fin:∀ v H' G' o,Al H3 (orF F3 (osL os L)) H' G'→VA B H' G' v z o→(∀ a,a∈o→H3 a=none)→Q v H':=fun u H4 G4 o a4 va fr=>by
  obtain ⟨F4,al4,r4,va2⟩:=ve_split r3 a4 va fr
  refine k u H4 F4 o (al.trans al4) r4 va2 fun b e=>?_
  cases q:H b with
  | none=>rfl
  | some w=>have:=fr b e; rw [al.same b w q] at this; cases this
 have hg:=r3.gd L
 unfold oSl at e
 split at e
 ·cases e
  cases d3 with
  | lst h q=>exact .inr (.inl ⟨_,_,rfl,h.sq,fun p hp=>new_li hg hp (q.cut _ _) fin⟩)
 ·cases e
  cases d3 with
  | fz h q=>exact .inr (.inl ⟨_,_,rfl,h.sq,fun p hp=>new_li hg hp (q.cut _ _) fin⟩)
 ·split at e
  ·cases e; cases d3
   exact .inl ⟨_,rfl,by assumption,fin _ H3 _ [] Al.refl ⟨rfl,.str _⟩ (by simp)⟩
  ·cases e
 ·split at e
  ·cases e
  ·rename_i hw
   cases e
   cases d3 with
   | tup h q=>exact .inr (.inr ⟨_,_,rfl,h.sq,by rw [q.length]; exact hw,fun p hp=>new_tup hp (q.cut _ _) fin⟩)
 ·split at e
  ·cases e
  ·rename_i hw
   cases e
   cases d3 with
   | kt h q=>exact .inr (.inr ⟨_,_,rfl,h.sq,by rw [q.length]; exact hw,fun p hp=>new_tup hp (q.cut _ _) fin⟩)
 ·cases e
end
def valG {κ α:Type} [DecidableEq κ] (kvs:List (κ×α)) (k:κ):Option α:=(kvs.find? fun kv=>decide (kv.1=k)).map (·.2)
def putG {κ α:Type} [DecidableEq κ] (kvs:List (κ×α)) (k:κ) (v:α):List (κ×α):=
 if (kvs.any fun kv=>decide (kv.1=k))=true then kvs.map (fun kv=>if kv.1=k then (kv.1,v) else kv) else kvs++[(k,v)]
section
variable {B:Bk} {H:Hp} {G:Addr→Prop} {κ:Type} [DecidableEq κ]
theorem val_rel {kvs:List (κ×V)} {ds:List (κ×D)} (e:kvs.map (·.1)=ds.map (·.1)) (r:DAs B H G (kvs.map (·.2)) (ds.map (·.2))) (k:κ) :
  (∀ d,valG ds k=some d→∃ v,valV kvs k=some v∧DA B H G v d)∧(valG ds k=none→valV kvs k=none):=by
 induction kvs generalizing ds with
 | nil=>cases ds with
  | nil=>exact ⟨fun d h=>(nomatch h),fun _=>rfl⟩
  | cons _ _=>simp at e
 | cons p kvs ih=>cases ds with
  | nil=>simp at e
  | cons q ds=>
   simp only [List.map_cons,List.cons.injEq] at e r
   cases r with
   | cons h r=>
    have:=ih e.2 r
    by_cases c:p.1=k
    ·have c':q.1=k:=e.1▸c
     have e1:valG (q :: ds) k=some q.2:=by simp [valG,List.find?_cons,c']
     have e2:valV (p :: kvs) k=some p.2:=by simp [valV,List.find?_cons,c]
     rw [e1,e2]
     exact ⟨fun d z=>by cases z; exact ⟨_,rfl,h⟩,fun z=>nomatch z⟩
    ·have c':¬ q.1=k:=e.1▸c
     have e1:valG (q :: ds) k=valG ds k:=by simp [valG,List.find?_cons,c']
     have e2:valV (p :: kvs) k=valV kvs k:=by simp [valV,List.find?_cons,c]
     rw [e1,e2]; exact this
theorem put_rel {kvs:List (κ×V)} {ds:List (κ×D)} (e:kvs.map (·.1)=ds.map (·.1)) (r:DAs B H G (kvs.map (·.2)) (ds.map (·.2))) {k:κ} {v:V} {d:D} (h:DA B H G v d) :
  (putK kvs k v).map (·.1)=(putG ds k d).map (·.1)∧DAs B H G ((putK kvs k v).map (·.2)) ((putG ds k d).map (·.2)):=by
 have ea:(kvs.any fun kv=>decide (kv.1=k))=(ds.any fun kv=>decide (kv.1=k)):=by
  have:∀ {α:Type} (l:List (κ×α)),(l.any fun kv=>decide (kv.1=k))=((l.map (·.1)).any fun x=>decide (x=k)):=fun l=>by rw [List.any_map]; rfl
  rw [this,this,e]
 unfold putK putG
 rw [ea]
 split
 ·clear ea
  induction kvs generalizing ds with
  | nil=>cases ds with
   | nil=>exact ⟨rfl,.nil⟩
   | cons _ _=>simp at e
  | cons p kvs ih=>cases ds with
   | nil=>simp at e
   | cons q ds=>
    simp only [List.map_cons,List.cons.injEq] at e r
    cases r with
    | cons h1 r=>
     have key:(kvs.map (fun kv=>if kv.1=k then (kv.1,v) else kv)).map (·.1)=(ds.map (fun kv=>if kv.1=k then (kv.1,d) else kv)).map (·.1)∧DAs B H G ((kvs.map (fun kv=>if kv.1=k then (kv.1,v) else kv)).map (·.2)) ((ds.map (fun kv=>if kv.1=k then (kv.1,d) else kv)).map (·.2)):=by
      have:∀ (kvs:List (κ×V)) (ds:List (κ×D)),kvs.map (·.1)=ds.map (·.1)→DAs B H G (kvs.map (·.2)) (ds.map (·.2))→(kvs.map (fun kv=>if kv.1=k then (kv.1,v) else kv)).map (·.1)=(ds.map (fun kv=>if kv.1=k then (kv.1,d) else kv)).map (·.1)∧DAs B H G ((kvs.map (fun kv=>if kv.1=k then (kv.1,v) else kv)).map (·.2)) ((ds.map (fun kv=>if kv.1=k then (kv.1,d) else kv)).map (·.2)):=by
       intro kvs
       induction kvs with
       | nil=>intro ds e r; cases ds with
        | nil=>exact ⟨rfl,.nil⟩
        | cons _ _=>simp at e
       | cons p kvs ih=>intro ds e r; cases ds with
        | nil=>simp at e
        | cons q ds=>
         simp only [List.map_cons,List.cons.injEq] at e r
         cases r with
         | cons h1 r=>
          obtain ⟨i1,i2⟩:=ih ds e.2 r
          by_cases c:p.1=k
          ·have c':q.1=k:=e.1▸c
           simp only [List.map_cons,if_pos c,if_pos c']
           exact ⟨by rw [i1,e.1],.cons h i2⟩
          ·have c':¬ q.1=k:=e.1▸c
           simp only [List.map_cons,if_neg c,if_neg c']
           exact ⟨by rw [i1,e.1],.cons h1 i2⟩
      exact this kvs ds e.2 r
     by_cases c:p.1=k
     ·have c':q.1=k:=e.1▸c
      simp only [List.map_cons,if_pos c,if_pos c']
      exact ⟨by rw [key.1,e.1],.cons h key.2⟩
     ·have c':¬ q.1=k:=e.1▸c
      simp only [List.map_cons,if_neg c,if_neg c']
      exact ⟨by rw [key.1,e.1],.cons h1 key.2⟩
 ·rw [List.map_append,List.map_append,List.map_append,List.map_append,e]
  exact ⟨rfl,r.append (.cons h .nil)⟩
end
@[simp] def asK:D→Option Key
 | .int i=>some (.inl i)
 | .str x=>some (.inr x)
 | _=>none
@[simp] def asKs:List D→Option (List Key)
 | []=>some []
 | d :: r=>(asK d).bind fun k=>(asKs r).map fun ks=>k :: ks
@[simp] def kD:Key→D
 | .inl i=>.int i
 | .inr x=>.str x
@[simp] def oGet:D→D→Option D
 | .dK kvs,y=>(asK y).bind (valG kvs)
 | .dT kvs,.tup ds=>(asKs ds).bind (valG kvs)
 | .dZ kvs,.tup ds=>(asKs ds).bind (valG kvs)
 | _,_=>none
section
variable {B:Bk} {H:Hp} {G:Addr→Prop}
theorem asK_v {v:V} {d:D} {k:Key} (h:DA B H G v d) (e:asK d=some k):v=kV k:=by
 cases h with
 | int i=>cases e; rfl
 | str x=>cases e; rfl
 | _=>cases e
theorem asKs_v:∀ {vs:List V} {ds:List D} {ks:List Key},DAs B H G vs ds→asKs ds=some ks→vs=ks.map kV
 | _,_,_,.nil,e=>by cases e; rfl
 | _,_,_,.cons h r,e=>by
  obtain ⟨k,e1,e2⟩:=bind1 e
  rw [Option.map_eq_some_iff] at e2
  obtain ⟨ks,e3,rfl⟩:=e2
  rw [asK_v h e1,asKs_v r e3]; rfl
theorem kD_da (k:Key):DA B H G (kV k) (kD k):=by cases k <;> constructor
theorem kDs_da:∀ ks:List Key,DAs B H G (ks.map kV) (ks.map kD)
 | []=>.nil
 | k :: ks=>.cons (kD_da k) (kDs_da ks)
theorem get_core {x y:V} {dx dy z:D} (hx:DA B H G x dx) (hy:DA B H G y dy) (e:oGet dx dy=some z):∃ a v,x=.ref a∧DGet H a y (some v)∧DA B H G v z:=by
 unfold oGet at e
 split at e
 ·obtain ⟨k,e1,e2⟩:=bind1 e
  cases hx with
  | dK f h ek r=>
   obtain ⟨v,e3,d3⟩:=(val_rel ek r k).1 z e2
   rw [asK_v hy e1]
   exact ⟨_,v,rfl,by rw [← e3]; exact DGet.k h,d3⟩
 ·obtain ⟨k,e1,e2⟩:=bind1 e
  cases hx with
  | dT f h ek r=>
   obtain ⟨v,e3,d3⟩:=(val_rel ek r k).1 z e2
   cases hy with
   | tup ht q=>
    have:=asKs_v q e1
    subst this
    exact ⟨_,v,rfl,by rw [← e3]; exact DGet.t h ht.2,d3⟩
 ·obtain ⟨k,e1,e2⟩:=bind1 e
  cases hx with
  | dZ f h ek r=>
   obtain ⟨v,e3,d3⟩:=(val_rel ek r k).1 z e2
   cases hy with
   | tup ht q=>
    have:=asKs_v q e1
    subst this
    exact ⟨_,v,rfl,by rw [← e3]; exact .inr ⟨_,_,_,.inr ⟨_,h⟩,rfl,ht.2,rfl⟩,d3⟩
 ·cases e
end
section
variable {B:Bk} {ta tb tv:TE} {La Lb Lv:List Nat} {ma mb mv:FSt→Option D}
theorem fd_get (ha:FD B ta La ma) (hb:FD B tb Lb mb):FD B (tDGet ta tb) (La++Lb) (m2 oGet ma mb):=
 fd_op (r:=fun x y H Q=>∃ a v,x=.ref a∧DGet H a y (some v)∧Q v H) (fun H G x y dx dy z Q hx hy e k=>by
  obtain ⟨a,v,e1,e2,e3⟩:=get_core hx hy e
  exact ⟨a,v,e1,e2,k v H G Al.refl e3⟩) ha hb
@[simp] def mDK:FSt→Option SV:=fun _=>some (.dK [])
@[simp] def mDT:FSt→Option SV:=fun _=>some (.dT [])
theorem fe_newK:FE B tDNewK [] mDK:=by
 intro S σ H F os Q x r e k p hp
 cases e
 have al:=al_fresh (F:=F) (u:=.dK []) hp
 exact k (.ref p) _ F [p] al (r.mono al) ⟨p,[],rfl,rfl,fun z=>r.gd [] p z hp,upd_same,rfl,.nil⟩ fun a ha=>by rw [List.mem_singleton.mp ha]; exact hp
theorem fe_newT:FE B tDNewT [] mDT:=by
 intro S σ H F os Q x r e k p hp
 cases e
 have al:=al_fresh (F:=F) (u:=.dT []) hp
 exact k (.ref p) _ F [p] al (r.mono al) ⟨p,[],rfl,rfl,fun z=>r.gd [] p z hp,upd_same,rfl,.nil⟩ fun a ha=>by rw [List.mem_singleton.mp ha]; exact hp
@[simp] def putD:SV→D→D→Option SV
 | .dK kvs,y,d=>(asK y).bind fun k=>if kvs.length < sizeLine then some (.dK (putG kvs k d)) else none
 | .dT kvs,.tup ys,d=>(asKs ys).bind fun k=>if kvs.length < sizeLine then some (.dT (putG kvs k d)) else none
 | _,_,_=>none
@[simp] def mPut (i:Nat) (L:List Nat) (mk mv:FSt→Option D):FSt→Fl:=fun S=>match mv S,mk S with
 | some d,some y=>if d.plain=true∨L.any (isLk S)=false then
   match (if d.plain=true then S else frzs L S)[i]? with
   | some (some x)=>match putD x y d with
    | some x'=>.nx ((if d.plain=true then S else frzs L S).set i (some x'))
    | none=>.bad
   | _=>.bad
  else .bad
 | _,_=>.bad
theorem putD_ok {H:Hp} {G:Addr→Prop} {v w y:V} {x x':SV} {dy d:D} {o:List Addr} (va:VA B H G v x o) (hy:DA B H G y dy) (hd:DA B H G w d) (e:putD x dy d=some x') :
  ∃ a u,v=.ref a∧o=[a]∧DPut H a y w (upd H a u)∧VA B (upd H a u) G v x' o∧(∀ d',x≠.sh d')∧isLk [some x] 0=false:=by
 unfold putD at e
 split at e
 ·obtain ⟨k,e1,e2⟩:=bind1 e
  split at e2
  ·rename_i hl
   cases e2
   obtain ⟨a,vs,rfl,rfl,nf,hh,ek,r⟩:=va
   have hl':vs.length < sizeLine:=by have:=congrArg List.length ek; simp at this; omega
   obtain ⟨p1,p2⟩:=put_rel ek r (k:=k) hd
   refine ⟨a,.dK (putK vs k w),rfl,rfl,by rw [asK_v hy e1]; exact DPut.k hh hl',⟨a,_,rfl,rfl,nf,upd_same,p1,p2.mono (fun b u f e=>by rw [upd_ne]; exact e; rintro rfl; exact nf f) fun _ f=>f⟩,fun _=>by simp,rfl⟩
  ·cases e2
 ·obtain ⟨k,e1,e2⟩:=bind1 e
  split at e2
  ·rename_i hl
   cases e2
   obtain ⟨a,vs,rfl,rfl,nf,hh,ek,r⟩:=va
   have hl':vs.length < sizeLine:=by have:=congrArg List.length ek; simp at this; omega
   obtain ⟨p1,p2⟩:=put_rel ek r (k:=k) hd
   cases hy with
   | tup ht q=>
    have:=asKs_v q e1
    subst this
    refine ⟨a,.dT (putK vs k w),rfl,rfl,DPut.t hh ht.2 hl',⟨a,_,rfl,rfl,nf,upd_same,p1,p2.mono (fun b u f e=>by rw [upd_ne]; exact e; rintro rfl; exact nf f) fun _ f=>f⟩,fun _=>by simp,rfl⟩
  ·cases e2
 ·cases e
theorem asK_plain {d:D} {k:Key} (h:asK d=some k):d.plain=true:=by cases d <;> first | rfl | cases h
theorem asKs_plain:∀ {ds:List D} {ks:List Key},asKs ds=some ks→D.plains ds=true
 | [],_,_=>rfl
 | d :: ds,_,h=>by
  obtain ⟨k,e1,e2⟩:=bind1 h
  rw [Option.map_eq_some_iff] at e2
  obtain ⟨ks,e3,_⟩:=e2
  simp [D.plains,asK_plain e1,asKs_plain e3]
theorem putD_plain {x x':SV} {y d:D} (e:putD x y d=some x'):y.plain=true:=by
 unfold putD at e
 split at e
 ·obtain ⟨k,e1,_⟩:=bind1 e; exact asK_plain e1
 ·obtain ⟨k,e1,_⟩:=bind1 e; simpa [D.plain] using asKs_plain e1
 ·cases e
theorem fs_put {i:Nat} (hk:FD B tb Lb mb) (hv:FD B tv Lv mv):FS B (sDPut (tVar i) tb tv) (mPut i Lv mb mv):=by
 intro S σ H F os E r h
 unfold mPut at h
 split at h
 case h_2=>exact h.elim
 case h_1 d y ed ey=>
  split at h
  case isFalse=>exact h.elim
  case isTrue c=>
   split at h
   case h_2=>exact h.elim
   case h_1 x hx=>
    split at h
    case h_2=>exact h.elim
    case h_1 x' ex=>
     have hp:=putD_plain ex
     refine hv S σ H F os _ d r ed fun w H1 F1 a1 r1 d1=>?_
     have nsh:∀ d',x≠.sh d':=fun d' z=>by subst z; cases ex
     have hS:S[i]? = some (some x)∧(d.plain=true∨i∉Lv):=by
      by_cases p:d.plain=true
      ·rw [if_pos p] at hx; exact ⟨hx,.inl p⟩
      ·rw [if_neg p,frzs_get] at hx
       by_cases hi:i∈Lv
       ·rw [if_pos hi] at hx
        cases e:S[i]? with
        | none=>rw [e] at hx; cases hx
        | some z=>cases z with
         | none=>rw [e] at hx; cases hx
         | some y=>rw [e] at hx; cases hx; exact absurd rfl (nsh _)
       ·rw [if_neg hi] at hx; exact ⟨hx,.inr hi⟩
     obtain ⟨v,hσ,_⟩:=r.at' i x hS.1
     refine ⟨v,hσ,hk S σ H1 F1 os _ y r1 ey fun yv H2 F2 a2 r2 d2=>?_⟩
     have d2':DA B H2 F2 yv y:=d2.toF r2 hp
     have st1:FStep σ S H F os σ S H2 F2 os:=(a1.trans a2).step
     obtain ⟨v',hv',va⟩:=r2.at' i x hS.1
     rw [hσ] at hv'; cases hv'
     by_cases p:d.plain=true
     ·rw [if_pos p] at h
      have d1':DA B H2 F2 w d:=(d1.later a2 fun _ h=>h).toF r2 p
      obtain ⟨a,u,rfl,eo,dp,va',_,nl⟩:=putD_ok va d2' d1' ex
      have em:a∈os i:=by rw [eo]; simp
      have nl':isLk S i=false:=by unfold isLk at nl ⊢; rw [hS.1]; exact nl
      exact ⟨a,_,rfl,dp,h σ _ F2 os (st1.trans (write_step em (.inl nl'))) (r2.write em hσ va')⟩
     ·rw [if_neg p] at h
      have hi:=hS.2.resolve_left p
      have c':=c.resolve_left p
      have r3:=r2.frz Lv
      have va3:VA B H2 (orF F2 (osL os Lv)) v x (os i):=va.sub (fun b z=>.inl z) fun b e z=>by
       rcases z with z | ⟨k,hk,z⟩
       ·exact (r2.alive e).2 z
       ·exact hi (r2.inj i k b e z▸hk)
      have d1':DA B H2 (orF F2 (osL os Lv)) w d:=d1.later a2 fun _ h=>h
      obtain ⟨a,u,rfl,eo,dp,va',_,nl⟩:=putD_ok va3 (d2'.mono (fun _ _ _ e=>e) fun _ z=>.inl z) d1' ex
      have eo1:(fun j=>if j∈Lv then [] else os j) i=os i:=by show (if i∈Lv then [] else os i)=_; rw [if_neg hi]
      have em1:a∈(fun j=>if j∈Lv then [] else os j) i:=by rw [eo1,eo]; simp
      have nl1:isLk (frzs Lv S) i=false:=by unfold isLk at nl ⊢; rw [frzs_get,if_neg hi,hS.1]; exact nl
      exact ⟨a,_,rfl,dp,h σ _ _ _ ((st1.trans (frz_step r2 c')).trans (write_step em1 (.inl nl1))) (r3.write em1 hσ (by show VA B _ _ _ _ (if i∈Lv then [] else os i); rw [if_neg hi]; exact va'))⟩
end
def rListT:List V→Hp→VK→Prop:=fun xs H Q=>∃ a kvs,xs=[V.ref a]∧H a=some (.dT kvs)∧∀ l ks,H l=none→Paired (fun (k:List Key) (b:Addr)=>H b=some (.tup (k.map kV))) (kvs.map (·.1)) ks→Q (.ref l) (upd H l (.lst (ks.map V.ref)))
theorem call_listT {X:Cx} (hc:X.calm=true):CallR X (.type "list") rListT:=by
 intro pins s σ H xs us Q I r h
 obtain ⟨a,kvs,rfl,ha,q⟩:=h
 obtain ⟨u,rfl,ru⟩:=vals1 r
 cases ru
 obtain ⟨z,hd,ys,rel,o,es,ep,h1,h2,h3,h4,_⟩:=dt_of I.hok ha
 have hl:es.size=kvs.length:=by
  have e1:es.toList.length=ys.length:=by rw [h4,List.length_map]
  have e2:kvs.length=ys.length:=Paired.length rel
  rw [Array.length_toList] at e1
  omega
 refine raw_list (I.ok.hd hc) hd ⟨o,h1,h2.1,h3⟩ (by rw [hl]; exact z) fun h' tk acc c' kp e it=>?_
 have eacc:acc.toList=(ys.map (·.2.1)).map Value.ref:=by
  refine List.ext_getElem? fun i=>?_
  by_cases hi:i < acc.size
  ·obtain ⟨en,e1,e2⟩:=it.2 i acc[i] (by simp [hi])
   have e3:es.toList[i]? = some en:=by simpa using e1
   rw [h4,List.getElem?_map] at e3
   cases qy:ys[i]? with
   | none=>rw [qy] at e3; cases e3
   | some y=>
    rw [qy] at e3; cases e3
    have:acc.toList[i]? = some acc[i]:=by simp [hi]
    rw [this,e2,List.getElem?_map,List.getElem?_map,qy]; rfl
  ·have h5:ys.length≤i:=by
    have e1:es.toList.length=ys.length:=by rw [h4,List.length_map]
    rw [Array.length_toList] at e1
    have:=it.1
    omega
   rw [List.getElem?_eq_none (by simp; omega),List.getElem?_eq_none (by simp; exact h5)]
 have vals:Vals ((ys.map (·.2.1)).map V.ref) acc.toList:=by
  rw [eacc]
  have:∀ l:List Addr,Vals (l.map V.ref) (l.map Value.ref):=fun l=>by
   induction l with
   | nil=>exact .nil
   | cons y ys ih=>exact .cons rfl ih
  exact this _
 refine ⟨.ref s.heap.objs.size,_,I.laid (t':=tk) kp (Nat.le_refl _) (show ObjOk X.prog X.w _ h' _ (.lst ((ys.map (·.2.1)).map V.ref)) from ⟨?_,acc.toList,c',vals,by simpa using e⟩),rfl,q _ _ (I.hok.fresh (Nat.le_refl _)) ?_⟩
 ·have e2:kvs.length=ys.length:=Paired.length rel
  simp; omega
 ·have:∀ {l:List (List Key×V)} {m:List (List Key×Addr×Value)},KT H l m→Paired (fun (k:List Key) (b:Addr)=>H b=some (.tup (k.map kV))) (l.map (·.1)) (m.map (·.2.1)):=fun {l m} rel=>by
   unfold KT at rel
   induction rel with
   | nil=>exact .nil
   | cons h _ ih=>
    obtain ⟨e1,e2,_⟩:=h
    exact .cons (by exact e2) ih
  exact this rel
def rListF (K:W.Frag):List V→Hp→VK→Prop:=fun xs H Q=>rListOf K xs H Q∨rListT xs H Q
theorem call_listF {X:Cx} {K:W.Frag} (hK:X.K=K) (hc:X.calm=true):CallR X (.type "list") (rListF K):=(call_listK hK).or (call_listT hc)
@[simp] def fList:List D→Option SV
 | [.lst xs]=>some (.li xs)
 | [.fz xs]=>some (.li xs)
 | [.tup xs]=>some (.li xs)
 | [.kt xs]=>some (.li xs)
 | [.dT kvs]=>some (.li (kvs.map fun kv=>.tup (kv.1.map kD)))
 | _=>none
@[simp] def fTuple:List D→Option SV
 | [.lst xs]=>some (.sh (.tup xs))
 | [.fz xs]=>some (.sh (.tup xs))
 | [.tup xs]=>some (.sh (.tup xs))
 | [.kt xs]=>some (.sh (.kt xs))
 | _=>none
section
variable {B:Bk} {K:W.Frag}
theorem c_list (hK:B.K=K):CallE B (rListF K) fList:=by
 subst hK
 intro H G vs ds z Q hg hd e k
 unfold fList at e
 split at e
 ·cases e
  obtain ⟨v,rfl,d1⟩:=hd.one
  cases d1 with
  | lst h r=>exact .inl ⟨_,_,rfl,.inl h.sq,fun p hp=>new_li hg hp r k⟩
 ·cases e
  obtain ⟨v,rfl,d1⟩:=hd.one
  cases d1 with
  | fz h r=>exact .inl ⟨_,_,rfl,(.inl h.sq),fun p hp=>new_li hg hp r k⟩
 ·cases e
  obtain ⟨v,rfl,d1⟩:=hd.one
  cases d1 with
  | tup h r=>exact .inl ⟨_,_,rfl,.inr h.sq,fun p hp=>new_li hg hp r k⟩
 ·cases e
  obtain ⟨v,rfl,d1⟩:=hd.one
  cases d1 with
  | kt h r=>exact .inl ⟨_,_,rfl,.inr h.sq,fun p hp=>new_li hg hp r k⟩
 ·cases e
  obtain ⟨v,rfl,d1⟩:=hd.one
  cases d1 with
  | @dT a kvs _ f h ek r=>
   rename_i es
   refine .inr ⟨_,_,rfl,h,fun l ks hl pk=>?_⟩
   rw [ek] at pk
   let G':Addr→Prop:=fun b=>G b∨isT H b
   have al:Al H G (upd H l (.lst (ks.map V.ref))) G':=⟨same_upd hl,fun b z=>.inl z,fun b z=>by
    rcases z with z | z
    ·exact .inl z
    ·exact .inr (.inr z)⟩
   have das:DAs B (upd H l (.lst (ks.map V.ref))) G' (ks.map V.ref) (es.map fun kv=>.tup (kv.1.map kD)):=by
    have:∀ {ls:List (List Key)} {bs:List Addr},Paired (fun (k:List Key) (b:Addr)=>H b=some (.tup (k.map kV))) ls bs→DAs B (upd H l (.lst (ks.map V.ref))) G' (bs.map V.ref) (ls.map fun k=>.tup (k.map kD)):=by
     intro ls bs p
     induction p with
     | nil=>exact .nil
     | cons h _ ih=>exact .cons (.tup ⟨.inr ⟨_,h⟩,al.same _ _ h⟩ (kDs_da _)) ih
    have:=this pk
    rwa [List.map_map] at this
   have nl:¬ G' l:=fun z=>by
    rcases z with z | ⟨ys,z⟩
    ·exact hg l z hl
    ·rw [hl] at z; cases z
   exact k (.ref l) _ G' [l] al ⟨l,_,rfl,rfl,nl,upd_same,das⟩ fun b hb=>by rw [List.mem_singleton.mp hb]; exact hl
 ·cases e
theorem c_tuple (hK:B.K=K):CallE B (rTupOf K) fTuple:=by
 subst hK
 intro H G vs ds z Q hg hd e k
 unfold fTuple at e
 split at e
 ·cases e
  obtain ⟨v,rfl,d1⟩:=hd.one
  cases d1 with
  | lst h r=>exact ⟨_,_,rfl,.inl ⟨h.sq,fun p hp=>new_tup hp r k⟩⟩
 ·cases e
  obtain ⟨v,rfl,d1⟩:=hd.one
  cases d1 with
  | fz h r=>exact ⟨_,_,rfl,.inl ⟨h.sq,fun p hp=>new_tup hp r k⟩⟩
 ·cases e
  obtain ⟨v,rfl,d1⟩:=hd.one
  cases d1 with
  | tup h r=>exact ⟨_,_,rfl,.inr ⟨h.sq,k _ H G [] Al.refl ⟨rfl,.tup h r⟩ (by simp)⟩⟩
 ·cases e
  obtain ⟨v,rfl,d1⟩:=hd.one
  cases d1 with
  | kt h r=>exact ⟨_,_,rfl,.inr ⟨h.sq,k _ H G [] Al.refl ⟨rfl,.kt h r⟩ (by simp)⟩⟩
 ·cases e
@[simp] def fMax:List D→Option SV
 | [.int i,.int j]=>some (.sh (.int (if j > i then j else i)))
 | _=>none
@[simp] def fMin:List D→Option SV
 | [.int i,.int j]=>some (.sh (.int (if j < i then j else i)))
 | _=>none
@[simp] def fInt:List D→Option SV
 | [.int i]=>some (.sh (.int i))
 | [.bl b]=>some (.sh (.int (if b then 1 else 0)))
 | _=>none
theorem c_max:CallE B (fun xs H Q=>∃ i j,xs=[.int i,.int j]∧Q (.int (if j > i then j else i)) H) fMax:=by
 intro H G vs ds z Q hg hd e k
 unfold fMax at e
 split at e
 ·cases e
  obtain ⟨v,w,rfl,d1,d2⟩:=hd.two
  cases d1; cases d2
  exact ⟨_,_,rfl,k _ H G [] Al.refl ⟨rfl,.int _⟩ (by simp)⟩
 ·cases e
theorem c_min:CallE B (fun xs H Q=>∃ i j,xs=[.int i,.int j]∧Q (.int (if j < i then j else i)) H) fMin:=by
 intro H G vs ds z Q hg hd e k
 unfold fMin at e
 split at e
 ·cases e
  obtain ⟨v,w,rfl,d1,d2⟩:=hd.two
  cases d1; cases d2
  exact ⟨_,_,rfl,k _ H G [] Al.refl ⟨rfl,.int _⟩ (by simp)⟩
 ·cases e
end
end L2
namespace L2
open PySem PySem.Spec PyProof.Rows
section
variable {B:Bk} {ta tb te:TE} {L L' La Lb:List Nat} {ma mb md:FSt→Option D} {me:FSt→Option SV} {tr:TA} {mr:FSt→Option (List D)} {K:W.Frag}
theorem FE.wk (h:FE B ta L me) (hl:∀ i,i∈L→i∈L'):FE B ta L' me:=by
 intro S σ H F os Q x r e k
 refine h S σ H F os Q x r e fun v H' F' o a r' va fr=>k v H' F' o a r' (va.sub (orF_sub (fun _ h=>h) hl) fun b e q=>?_) fr
 rcases q with q | ⟨i,_,q⟩
 ·exact (va.alive e).2.1 (.inl q)
 ·exact (r.alive q).1 (fr b e)
theorem FD.wk (h:FD B ta L ma) (hl:∀ i,i∈L→i∈L'):FD B ta L' ma:=by
 intro S σ H F os Q x r e k
 exact h S σ H F os Q x r e fun v H' F' a r' da=>k v H' F' a r' (da.mono (fun _ _ _ e=>e) (orF_sub (fun _ h=>h) hl))
theorem sub_dec {L L':List Nat} (h:(L.all fun i=>L'.contains i)=true):∀ i,i∈L→i∈L':=fun i hi=>by
 have:=List.all_eq_true.mp h i hi
 simpa using this
theorem ws_set {i:Nat} (L':List Nat) (he:FE B te L me) (hl:(L.all fun i=>L'.contains i)=true:=by rfl):FS B (tAsg te (gName i)) (mSet i L' me):=fs_set (he.wk (sub_dec hl))
theorem ws_app {i:Nat} (L':List Nat) (hK:B.K=K) (he:FD B te L md) (hl:(L.all fun i=>L'.contains i)=true:=by rfl):FS B (tDrop (tBM K "list" rAppend (tVar i) (tCons te tNil))) (mApp i L' md):=fs_app hK (he.wk (sub_dec hl))
theorem ws_put {i:Nat} (L':List Nat) (hk:FD B tb Lb mb) (hv:FD B te L md) (hl:(L.all fun i=>L'.contains i)=true:=by rfl):FS B (sDPut (tVar i) tb te) (mPut i L' mb md):=fs_put hk (hv.wk (sub_dec hl))
@[simp] def asLi:SV→Option (List D)
 | .li xs=>some xs
 | _=>none
@[simp] def mLs (a:FSt→Option SV) (r:FSt→Option (List (List D))):FSt→Option (List (List D)):=fun S=>(a S).bind fun x=>(asLi x).bind fun xs=>(r S).map fun xss=>xs :: xss
@[simp] def mLs0:FSt→Option (List (List D)):=fun _=>some []
@[simp] def mLl (r:FSt→Option (List (List D))):FSt→Option SV:=fun S=>(r S).bind fun xss=>if xss.length≤sizeLine then some (.ll xss) else none
@[simp] def mAppAt (i:Nat) (mk md:FSt→Option D):FSt→Fl:=fun S=>match S[i]?,mk S,md S with
 | some (some (.ll xss)),some (.int k),some d=>if d.plain=true then (match ixN xss.length k with
   | some j=>match xss[j]? with
    | some xs=>if xs.length < sizeLine then .nx (S.set i (some (.ll (xss.set j (xs++[d]))))) else .bad
    | none=>.bad
   | none=>.bad) else .bad
 | _,_,_=>.bad
end
@[simp] def mAsg (L:List Nat) (me:FSt→Option SV) (mg:D→FSt→Option FSt):FSt→Fl:=fun S=>match me S with
 | some x=>if x.plain=true then (match mg x.fr S with | some S'=>.nx S' | none=>.bad) else if L.any (isLk S)=false then (match mg x.fr (frzs L S) with | some S'=>.nx S' | none=>.bad) else .bad
 | none=>.bad
section
variable {B:Bk} {te:TE} {L:List Nat} {me:FSt→Option SV} {g:TG} {mg:D→FSt→Option FSt}
end
@[simp] noncomputable def mR1 (mr:FSt→Option (List D)):FSt→Option (List D):=fun S=>(mr S).bind fun ds=>if ds.length=1 then fRng ds else none
@[simp] noncomputable def mR2 (mr:FSt→Option (List D)):FSt→Option (List D):=fun S=>(mr S).bind fun ds=>if ds.length=2 then fRng ds else none
section
variable {B:Bk} {tr:TA} {L:List Nat} {mr:FSt→Option (List D)}
theorem wi_rng1 (hr:FA B tr L mr):FI B (iRng1 tr) (mR1 mr):=fi_rng1 hr
end
theorem runF_len' {m:FSt→Fl} {n k:Nat}:∀ ds z,runF m n k ds=some z→ds.length=n:=fun _ _ h=>runF_len h
theorem Fun.okF {P : Program} {w : World} {K : W.Frag} {mg : Str → Option Value} {base : Heap} {x qual : Str} {st : Stmt} {f : Addr} {fd : FuncData} {N ps : List Str} {k : Nat} {B : Bk} {m : FSt → Fl} (F : Fun K x qual st f fd) (S : FnScope N ps (defScope st))
    (hbody : ∀ (cdv : Value) (A : Around) (outer : List Env) (s : Shared) (H : Hp) (E : XK), Room k (A.deeper (envOfC qual (defScope st) s.heap.objs.size f cdv)) →
      ∃ t, PSs (cxOf CX0 P w K mg base N qual (defScope st) f cdv A outer s H E).nox (defBody st) t ∧ FS B t m) : FnOk P w K mg base CX0 (k + 1) f fd ps (SpF B ps.length (runF m ps.length N.length)) := by
  obtain ⟨oc, od, kV, doc, pm, an, cdv, ct, osl, rfl, lk, hcd⟩ := F.ex
  refine fn_F lk hcd S fun A outer s H E hr => ?_
  obtain ⟨t, h, q⟩ := hbody cdv A outer s H E hr
  exact ⟨t, h.nox, q⟩
def sp_law (K:W.Frag):Sp:=fun vs H Q _=>∃ (a:Addr) (ns:List Int),vs=[.ref a]∧SqL K H a (ns.map V.int)∧Only H∧ns.length≤63∧∀ H',Q (.bl true) H'
theorem ints_da {B:Bk} {H:Hp} {G:Addr→Prop}:∀ ns:List Int,DAs B H G (ns.map V.int) (ns.map D.int)
 | []=>.nil
 | n :: ns=>.cons (.int n) (ints_da ns)
theorem sp_law_of {K:W.Frag} {B:Bk} {f:List D→Option SV} (hK:B.K=K) (h:∀ ns:List Int,ns.length≤63→f [.fz (ns.map D.int)]=some (.sh (.bl true))):∀ vs H Q E,sp_law K vs H Q E→SpF B 1 f vs H Q E:=by
 subst hK
 rintro vs H Q E ⟨a,ns,rfl,hs,ho,hl,k⟩
 refine ⟨rfl,fun b=>H b≠none,[.fz (ns.map D.int)],.sh (.bl true),fun _ z=>z,.cons (.fz ?_ (ints_da ns)) .nil,h ns hl,fun v H' G' o _ va _=>?_⟩
 ·rcases hs with (hs | ⟨o,hs⟩) | hs
  ·rcases ho a with z | ⟨o,xs,z⟩
   ·rw [hs] at z; cases z
   ·rw [hs] at z; cases z
  ·exact .inl ⟨by show H a≠none; rw [hs]; simp,o,hs⟩
  ·exact .inr hs
 ·obtain ⟨_,da⟩:=va
  cases da
  exact k H'
end L2
namespace L2
open PySem PySem.Spec PyProof.Rows
section
variable {B:Bk} {te:TE} {L:List Nat} {md:FSt→Option D} {K:W.Frag}
theorem VA.fields {H:Hp} {F:Addr→Prop} {v:V} {x:SV} {o:List Addr} {c:Nat} {fs:List (Str×D)} (h:VA B H F v x o) (e:x.fr=.ins c fs):∃ a dx ws,v=.ref a∧H a=some (.ins (B.cl c) dx ws)∧ws.map (·.1)=fs.map (·.1)∧DAs B H F (ws.map (·.2)) (fs.map (·.2)):=by
 cases x with
 | sh d=>
  obtain ⟨_,da⟩:=h
  cases e
  cases da with
  | ins f hh he r=>exact ⟨_,_,_,rfl,hh,he,r⟩
 | ob c' fs'=>
  cases e
  obtain ⟨a,dx,ws,rfl,_,_,hh,he,r⟩:=h
  exact ⟨a,dx,ws,rfl,hh,he,r⟩
 | _=>cases e
theorem fd_fldv {cs:List Nat} {f:Str} {i:Nat} (hK:B.K=K) (hc:∀ c∈cs,Cls B.K (B.cl c)∧NoAttr B.K (B.cl c) f):FD B (tFld K (tVar i) f) [] (m1 (fFld cs f) (mV i)):=by
 subst hK
 intro S σ H F os Q z r e k
 obtain ⟨d,ed,ef⟩:=bind1 e
 cases d with
 | ins c fs=>
  have ef:(if c∈cs then fs.lookup f else none)=some z:=ef
  split at ef
  ·rename_i h
   unfold mV at ed
   cases q:S[i]? with
   | none=>rw [q] at ed; cases ed
   | some y=>cases y with
    | none=>rw [q] at ed; cases ed
    | some x=>
     rw [q] at ed
     have ed:x.fr=.ins c fs:=Option.some.inj ed
     obtain ⟨v,h1,h2⟩:=r.at' i x q
     obtain ⟨a,dx,ws,rfl,hh,he,rr⟩:=h2.fields ed
     obtain ⟨w,e1,e2⟩:=(lookup_rel he rr f).1 z ef
     exact ⟨.ref a,h1,a,_,dx,ws,w,rfl,hh,(hc c h).1,(hc c h).2,e1,k w H F Al.refl r (e2.mono (fun _ _ _ e=>e) fun _ z=>.inl z)⟩
  ·cases ef
 | _=>cases ef
def putD' (f:Str) (v:D):List (Str×D)→List (Str×D)
 | []=>[(f,v)]
 | (g,x) :: r=>if g=f then (g,v) :: r else (g,x) :: putD' f v r
theorem putF_rel {H:Hp} {G:Addr→Prop} {f:Str} {v:V} {d:D} (h:DA B H G v d):∀ {ws:List (Str×V)} {fs:List (Str×D)},ws.map (·.1)=fs.map (·.1)→DAs B H G (ws.map (·.2)) (fs.map (·.2))→
  (putF f v ws).map (·.1)=(putD' f d fs).map (·.1)∧DAs B H G ((putF f v ws).map (·.2)) ((putD' f d fs).map (·.2))
 | [],[],_,_=>⟨rfl,.cons h .nil⟩
 | [],_ :: _,e,_=>by simp at e
 | _ :: _,[],e,_=>by simp at e
 | (g,x) :: ws,(g',y) :: fs,e,r=>by
  simp only [List.map_cons,List.cons.injEq] at e r
  obtain ⟨e1,e2⟩:=e
  subst e1
  cases r with
  | cons h1 r=>
   obtain ⟨i1,i2⟩:=putF_rel h e2 r
   by_cases c:g=f
   ·simp only [putF,putD',if_pos c,List.map_cons]
    exact ⟨by rw [e2],.cons h r⟩
   ·simp only [putF,putD',if_neg c,List.map_cons]
    exact ⟨by rw [i1],.cons h1 i2⟩
@[simp] def mFldS (i:Nat) (cs:List Nat) (f:Str) (L:List Nat) (md:FSt→Option D):FSt→Fl:=fun S=>match md S with
 | some d=>if d.plain=true∨L.any (isLk S)=false then
   match (if d.plain=true then S else frzs L S)[i]? with
   | some (some (.ob c fs))=>if c∈cs∧fs.length < 1000 then .nx ((if d.plain=true then S else frzs L S).set i (some (.ob c (putD' f d fs)))) else .bad
   | _=>.bad
  else .bad
 | none=>.bad
theorem fs_fld {cs:List Nat} {f:Str} {i:Nat} (hK:B.K=K) (hc:∀ c∈cs,Cls B.K (B.cl c)∧NoAttr B.K (B.cl c) f) (he:FD B te L md):FS B (sFld K (tVar i) te f) (mFldS i cs f L md):=by
 subst hK
 intro S σ H F os E r h
 unfold mFldS at h
 cases q:md S with
 | none=>rw [q] at h; exact h.elim
 | some d=>
  rw [q] at h
  dsimp only at h
  split at h
  case isFalse=>exact h.elim
  case isTrue c0=>
   split at h
   case h_2=>exact h.elim
   case h_1 c fs hx=>
    split at h
    case isFalse=>exact h.elim
    case isTrue hz=>
     have hS:S[i]? = some (some (.ob c fs))∧(d.plain=true∨i∉L):=by
      by_cases p:d.plain=true
      ·rw [if_pos p] at hx; exact ⟨hx,.inl p⟩
      ·rw [if_neg p,frzs_get] at hx
       by_cases hi:i∈L
       ·rw [if_pos hi] at hx
        cases e:S[i]? with
        | none=>rw [e] at hx; cases hx
        | some z=>cases z with
         | none=>rw [e] at hx; cases hx
         | some y=>rw [e] at hx; cases hx
       ·rw [if_neg hi] at hx; exact ⟨hx,.inr hi⟩
     obtain ⟨v,hv,_⟩:=r.at' i _ hS.1
     refine he S σ H F os _ d r q fun w H' F' al r' da=>⟨v,hv,?_⟩
     obtain ⟨v',hv',a,dx,ws,e1,eo,nf,hh,en,das⟩:=r'.at' i _ hS.1
     rw [hv] at hv'; cases hv'; subst e1
     have hlen:ws.length < 1000:=by have:=congrArg List.length en; simp at this; omega
     refine ⟨a,_,dx,ws,rfl,hh,(hc c hz.1).1,(hc c hz.1).2,hlen,?_⟩
     have st1:FStep σ S H F os σ S H' F' os:=al.step
     have em:a∈os i:=by rw [eo]; simp
     by_cases p:d.plain=true
     ·rw [if_pos p] at h
      have da':=da.toF r' p
      have hk:∀ b o,F' b→H' b=some o→upd H' a (.ins (B.cl c) dx (putF f w ws)) b=some o:=fun b o f h=>by rw [upd_ne]; exact h; rintro rfl; exact nf f
      obtain ⟨p1,p2⟩:=putF_rel (f:=f) da' en das
      have r2:=r'.write (u:=.ins (B.cl c) dx (putF f w ws)) (x:=.ob c (putD' f d fs)) em hv ⟨a,dx,_,rfl,eo,nf,upd_same,p1,p2.mono hk fun _ h=>h⟩
      exact h σ _ F' os (st1.trans (write_step em (.inr (.inl ⟨c,fs,_,hS.1,rfl⟩)))) r2
     ·rw [if_neg p] at h
      have hi:=hS.2.resolve_left p
      have c':=c0.resolve_left p
      have r1:=r'.frz L
      have eo1:(fun j=>if j∈L then [] else os j) i=[a]:=by show (if i∈L then [] else os i)=_; rw [if_neg hi]; exact eo
      have em1:a∈(fun j=>if j∈L then [] else os j) i:=by rw [eo1]; simp
      have nf1:¬ orF F' (osL os L) a:=fun z=>by
       rcases z with z | ⟨k,hk,z⟩
       ·exact nf z
       ·exact hi (r.inj i k a em z▸hk)
      have hk:∀ b o,orF F' (osL os L) b→H' b=some o→upd H' a (.ins (B.cl c) dx (putF f w ws)) b=some o:=fun b o f h=>by rw [upd_ne]; exact h; rintro rfl; exact nf1 f
      have das0:DAs B H' (orF F' (osL os L)) (ws.map (·.2)) (fs.map (·.2)):=das.mono (fun _ _ _ e=>e) fun _ z=>.inl z
      obtain ⟨p1,p2⟩:=putF_rel (f:=f) da en das0
      have r2:=r1.write (u:=.ins (B.cl c) dx (putF f w ws)) (x:=.ob c (putD' f d fs)) em1 hv ⟨a,dx,_,rfl,eo1,nf1,upd_same,p1,p2.mono hk fun _ h=>h⟩
      have e1:(frzs L S)[i]? = some (some (.ob c fs)):=by rw [frzs_get,if_neg hi]; exact hS.1
      exact h σ _ _ _ ((st1.trans (frz_step r' c')).trans (write_step em1 (.inr (.inl ⟨c,fs,_,e1,rfl⟩)))) r2
theorem ws_fld {cs:List Nat} {f:Str} {i:Nat} (L':List Nat) (hK:B.K=K) (hc:∀ c∈cs,Cls B.K (B.cl c)∧NoAttr B.K (B.cl c) f) (he:FD B te L md) (hl:(L.all fun i=>L'.contains i)=true:=by rfl):FS B (sFld K (tVar i) te f) (mFldS i cs f L' md):=fs_fld hK hc (he.wk (sub_dec hl))
end
def SpI (B:Bk) (n:Nat) (f:Nat→List D→Option (List (Str×D))):Sp:=fun vs H Q _=>vs.length=n∧∃ (G:Addr→Prop) (c:Nat) (x dx:Addr) (vs':List V) (ds:List D) (fs:List (Str×D)),vs=.ref x :: vs'∧(∀ b,G b→H b≠none)∧¬ G x∧
 H x=some (.ins (B.cl c) dx [])∧DAs B H G vs' ds∧f c ds=some fs∧∀ H' G' dx' ws,(∀ b u,H b=some u→b≠x→H' b=some u)→(∀ b,G b→G' b)→(∀ b,G' b→G b∨(H b=none∧H' b≠none)∨isT H b)→¬ G' x→
  H' x=some (.ins (B.cl c) dx' ws)→ws.map (·.1)=fs.map (·.1)→DAs B H' G' (ws.map (·.2)) (fs.map (·.2))→Q .non H'
def runI (m:FSt→Fl) (n k:Nat) (c:Nat) (ds:List D):Option (List (Str×D)):=if ds.length+1=n then (match m (some (.ob c []) :: (ds.map (fun d=>some (.sh d))++List.replicate (k-n) none)) with
 | .nx S=>match S[0]? with
  | some (some (SV.ob c' fs))=>if c'=c then some fs else none
  | _=>none
 | _=>none) else none
theorem runI_len {m:FSt→Fl} {n k c:Nat} {ds:List D} {z:List (Str×D)} (h:runI m n k c ds=some z):ds.length+1=n:=by
 unfold runI at h
 split at h
 ·assumption
 ·cases h
theorem rep_startI {B:Bk} {H:Hp} {G:Addr→Prop} {N:List Str} {vs:List V} {ds:List D} {x dx:Addr} {c:Nat} (hg:∀ b,G b→H b≠none) (hx:¬ G x) (hh:H x=some (.ins (B.cl c) dx [])) (da:DAs B H G vs ds) (hn:vs.length+1≤N.length) :
  Rep B H G (start N (.ref x :: vs)) (some (.ob c []) :: (ds.map (fun d=>some (.sh d))++List.replicate (N.length-(ds.length+1)) none)) (fun i=>if i=0 then [x] else []):=by
 have hs:start N (.ref x :: vs)=some (.ref x) :: (vs.map some++List.replicate (N.length-(vs.length+1)) none):=rfl
 refine ⟨fun i y h=>?_,fun i h=>?_,fun i j a e1 e2=>?_,hg,?_⟩
 ·cases i with
  | zero=>
   cases h
   exact ⟨.ref x,by rw [hs]; rfl,x,dx,[],rfl,rfl,hx,hh,rfl,.nil⟩
  | succ i=>
   rw [hs]
   rw [List.getElem?_cons_succ] at h ⊢
   by_cases hi:i < ds.length
   ·rw [List.getElem?_append_left (by simpa using hi),List.getElem?_map] at h
    cases q:ds[i]? with
    | none=>rw [q] at h; cases h
    | some d=>
     rw [q] at h; cases h
     obtain ⟨v,e,da'⟩:=da.get q
     refine ⟨v,?_,rfl,da'⟩
     rw [List.getElem?_append_left (by simp; rw [da.length]; exact hi),List.getElem?_map,e]; rfl
   ·rw [List.getElem?_append_right (by simpa using hi)] at h
    rw [List.getElem?_replicate] at h
    split at h <;> cases h
 ·cases i with
  | zero=>exact absurd rfl (h _)
  | succ i=>rfl
 ·have e1:a∈(if i=0 then [x] else []):=e1
  have e2:a∈(if j=0 then [x] else []):=e2
  split at e1
  ·split at e2
   ·omega
   ·simp at e2
  ·simp at e1
 ·rw [hs]
  have:=da.length
  simp
  omega
theorem Fun.okI {P : Program} {w : World} {K : W.Frag} {mg : Str → Option Value} {base : Heap} {x qual : Str} {st : Stmt} {f : Addr} {fd : FuncData} {N ps : List Str} {k : Nat} {B : Bk} {m : FSt → Fl} (F : Fun K x qual st f fd) (S : FnScope N ps (defScope st))
    (hbody : ∀ (cdv : Value) (A : Around) (outer : List Env) (s : Shared) (H : Hp) (E : XK), Room k (A.deeper (envOfC qual (defScope st) s.heap.objs.size f cdv)) →
      ∃ t, PSs (cxOf CX0 P w K mg base N qual (defScope st) f cdv A outer s H E).nox (defBody st) t ∧ FS B t m) : FnOk P w K mg base CX0 (k + 1) f fd ps (SpI B ps.length (runI m ps.length N.length)) := by
  obtain ⟨oc, od, kV, doc, pm, an, cdv, ct, osl, rfl, lk, hcd⟩ := F.ex
  have hpl : ps.length ≤ N.length := by have := congrArg List.length S.pre; rw [List.length_take] at this; omega
  refine fn_of lk hcd S (fun vs H Q E h => h.1) fun A outer s H vs Q E hr ⟨hl, G, c, x, dx, vs', ds, fs, e0, hg, hx, hh, da, hz, post⟩ => ?_
  subst e0
  obtain ⟨t, ht, hf⟩ := hbody cdv A outer s H E hr
  refine ⟨t, ht.nox, ?_⟩
  have hdl := runI_len hz
  have hvl : vs'.length + 1 ≤ N.length := by simp at hl; omega
  refine hf _ _ H G _ _ (rep_startI hg hx hh da hvl) ?_
  unfold runI at hz
  rw [if_pos hdl] at hz
  rw [hdl]
  cases q : m (some (.ob c []) :: (ds.map (fun d => some (.sh d)) ++ List.replicate (N.length - ps.length) none)) with
  | nx S' =>
    rw [q] at hz
    dsimp only at hz
    intro σ' H' F' os' st r'
    obtain ⟨⟨fs', hS⟩, hσ⟩ := st.lob 0 c [] rfl
    rw [hS] at hz
    simp only [if_pos rfl, if_true] at hz
    cases hz
    obtain ⟨v, hv, a, dx', ws, e1, eo, nf, hh', en, das⟩ := r'.at' 0 _ hS
    rw [hσ] at hv
    have : v = .ref x := by
      have h0 : (start N (V.ref x :: vs'))[0]? = some (some (.ref x)) := rfl
      rw [h0] at hv
      exact (Option.some.inj (Option.some.inj hv)).symm
    subst this
    cases e1
    refine post H' F' dx' ws (fun b u e ne => st.keep b u e fun i z => ?_) st.up (fun b z => ?_) nf hh' en das
    · have z : b ∈ (if i = 0 then [x] else []) := z
      split at z
      · exact ne (List.mem_singleton.mp z)
      · simp at z
    · rcases st.new b z with z1 | z1 | ⟨i, z1⟩ | z1
      · exact .inl z1
      · exact .inr (.inl ⟨z1, r'.fd b z⟩)
      · have z1 : b ∈ (if i = 0 then [x] else []) := z1
        split at z1
        · rw [List.mem_singleton.mp z1] at z; exact absurd z nf
        · simp at z1
      · exact .inr (.inr z1)
  | rt x => rw [q] at hz; cases hz
  | bk S' => rw [q] at hz; cases hz
  | ct S' => rw [q] at hz; cases hz
  | bad => rw [q] at hz; cases hz
@[simp] def mMake (c:Nat) (f:Nat→List D→Option (List (Str×D))) (mr:FSt→Option (List D)):FSt→Option SV:=fun S=>(mr S).bind fun ds=>(f c ds).map fun fs=>.sh (.ins c fs)
section
variable {B:Bk} {tr:TA} {L:List Nat} {mr:FSt→Option (List D)}
theorem fe_make {c n:Nat} {C:Addr} {f:Nat→List D→Option (List (Str×D))} {E:XK} (hC:B.cl c=C) (hf:∀ c ds z,f c ds=some z→ds.length+1=n) (hr:FA B tr L mr):FE B (tMake C (SpI B n f) [] E tr) L (mMake c f mr):=by
 subst hC
 intro S σ H F os Q z rp e k
 obtain ⟨ds,ed,ef⟩:=bind1 e
 rw [Option.map_eq_some_iff] at ef
 obtain ⟨fs,ef,rfl⟩:=ef
 refine hr S σ H F os _ ds rp ed fun vs H1 F1 a1 r1 d1 x dx hx hdx hne=>?_
 have sm:Same H1 (upd (upd H1 dx (.own x)) x (.ins (B.cl c) dx [])):=fun b u e=>by
  rw [upd_ne (ne_of_none e hx),upd_ne (ne_of_none e hdx)]; exact e
 have hl:(V.ref x :: (vs++[])).length=n:=by rw [List.append_nil,List.length_cons,d1.length]; exact hf _ _ _ ef
 refine ⟨hl,orF F1 (osL os L),c,x,dx,vs++[],ds,fs,rfl,fun b z=>?_,fun z=>r1.gd L x z hx,upd_same,by rw [List.append_nil]; exact d1.mono (fun b o _ e=>sm b o e) fun _ z=>z,ef,fun H' G' dx' ws kp up new nx hh en das=>⟨rfl,?_⟩⟩
 ·cases q:H1 b with
  | none=>exact absurd q (r1.gd L b z)
  | some u=>rw [sm b u q]; simp
 ·have al:Al H1 (orF F1 (osL os L)) H' (fun b=>G' b∨b=x):=by
   refine ⟨fun b u e=>kp b u (sm b u e) (ne_of_none e hx),fun b z=>.inl (up b z),fun b z=>?_⟩
   rcases z with z | rfl
   ·rcases new b z with z | z | ⟨ys,z⟩
    ·exact .inl z
    ·refine .inr (.inl ⟨?_,z.2⟩)
     cases q:H1 b with
     | none=>rfl
     | some u=>rw [sm b u q] at z; cases z.1
    ·by_cases q1:b=x
     ·subst q1; rw [upd_same] at z; cases z
     ·by_cases q2:b=dx
      ·subst q2; rw [upd_ne q1,upd_same] at z; cases z
      ·rw [upd_ne q1,upd_ne q2] at z; exact .inr (.inr ⟨ys,z⟩)
   ·exact .inr (.inl ⟨hx,by rw [hh]; simp⟩)
  obtain ⟨F2,al2,r2,q,_⟩:=r1.split al
  refine k (.ref x) H' F2 [] (a1.trans al2) r2 ⟨rfl,.ins (q x (.inr rfl)) hh en (das.mono (fun _ _ _ e=>e) fun b z=>q b (.inl z))⟩ fun a ha=>absurd ha (by simp)
theorem runI_len' {m:FSt→Fl} {n k:Nat}:∀ c ds z,runI m n k c ds=some z→ds.length+1=n:=fun _ _ _ h=>runI_len h
end
end L2
namespace L2
open PySem PySem.Spec PyProof.Rows
def MtE (B:Bk) (K:W.Frag) (T:String) (r:V→List V→Hp→VK→Prop) (f:D→List D→Option SV):Prop:=∀ (H:Hp) (G:Addr→Prop) (x:V) (vs:List V) (dx:D) (ds:List D) (z:SV) (Q:VK),(∀ b,G b→H b≠none)→DA B H G x dx→DAs B H G vs ds→f dx ds=some z→
 (∀ v H' G' o,Al H G H' G'→VA B H' G' v z o→(∀ a,a∈o→H a=none)→Q v H')→r x vs H Q
def MtT (B:Bk) (K:W.Frag) (T:String) (f:D→List D→Option SV):Prop:=∀ (H:Hp) (G:Addr→Prop) (x:V) (dx:D) (ds:List D) (z:SV),DA B H G x dx→f dx ds=some z→tyV K T x H
@[simp] def mBM (f:D→List D→Option SV) (a:FSt→Option D) (r:FSt→Option (List D)):FSt→Option SV:=fun S=>(a S).bind fun x=>(r S).bind fun ds=>f x ds
section
variable {B:Bk} {K:W.Frag} {ta:TE} {La Lb L:List Nat} {ma:FSt→Option D} {tr:TA} {mr:FSt→Option (List D)}
theorem fe_bm0 {T:String} {r:V→List V→Hp→VK→Prop} {f:D→List D→Option SV} (ht:MtT B K T f) (ho:MtE B K T r f) (ha:FD B ta La ma):FE B (tBM0 K T r ta) La (mBM f ma mNil):=by
 intro S σ H F os Q z rp e k
 obtain ⟨d,ds,ed,er,ef⟩:=bind2 e
 cases er
 refine ha S σ H F os _ d rp ed fun v H1 F1 a1 r1 d1=>⟨ht H1 _ v d [] z d1 ef,?_⟩
 refine ho H1 (orF F1 (osL os La)) v [] d [] z Q (r1.gd _) d1 .nil ef fun u H3 G3 o a3 va fr=>?_
 obtain ⟨F3,al,r3,va2⟩:=ve_split r1 a3 va fr
 refine k u H3 F3 o (a1.trans al) r3 va2 fun b e=>?_
 cases q:H b with
 | none=>rfl
 | some w=>have:=fr b e; rw [a1.same b w q] at this; cases this
@[simp] def asStrs:List D→Option (List Str)
 | []=>some []
 | .str z :: r=>(asStrs r).map fun zs=>z :: zs
 | _=>none
theorem asStrs_v {H:Hp} {G:Addr→Prop}:∀ {vs:List V} {ds:List D} {zs:List Str},DAs B H G vs ds→asStrs ds=some zs→vs=zs.map V.str
 | _,_,_,.nil,e=>by cases e; rfl
 | _,_,_,.cons h r,e=>by
  cases h with
  | str x=>
   simp only [asStrs,Option.map_eq_some_iff] at e
   obtain ⟨zs,e1,rfl⟩:=e
   rw [asStrs_v r e1]; rfl
  | _=>cases e
@[simp] def oJoin:D→List D→Option SV
 | .str z,[.lst ds]=>(asStrs ds).bind fun zs=>if (zs.map (·.length)).sum+zs.length*z.length≤16777216 then some (.sh (.str (Txt.join z zs))) else none
 | _,_=>none
theorem t_join:MtT B K "str" oJoin:=by
 intro H G x dx ds z d e
 cases d with
 | str x=>rfl
 | _=>cases e
theorem mt_joinE (hK:B.K=K):MtE B K "str" (rJoin K) oJoin:=by
 subst hK
 intro H G x vs dx ds z Q hg d d2 e k
 unfold oJoin at e
 split at e
 ·obtain ⟨zs,e1,e2⟩:=bind1 e
  split at e2
  ·cases e2
   obtain ⟨v,rfl,d3⟩:=d2.one
   cases d
   cases d3 with
   | lst h r=>
    have:=asStrs_v r e1
    subst this
    exact ⟨_,_,zs,rfl,rfl,h.sq,by assumption,k _ H G [] Al.refl ⟨rfl,.str _⟩ (by simp)⟩
  ·cases e2
 ·cases e
@[simp] def oIndex:D→List D→Option SV
 | .lst ds,[.str z]=>(asStrs ds).bind fun zs=>if zs.idxOf z < zs.length then some (.sh (.int (zs.idxOf z:Nat))) else none
 | _,_=>none
@[simp] def oBitLen:D→List D→Option SV
 | .int i,[]=>some (.sh (.int ((Builtin.Int.intBits i:Nat):Int)))
 | _,_=>none
theorem t_bitlen:MtT B K "int" oBitLen:=by
 intro H G x dx ds z d e
 cases d with
 | int x=>rfl
 | _=>cases e
theorem mt_bitlenE:MtE B K "int" rBitLen oBitLen:=by
 intro H G x vs dx ds z Q hg d d2 e k
 unfold oBitLen at e
 split at e
 ·cases e; cases d; cases d2
  exact ⟨_,rfl,rfl,k _ H G [] Al.refl ⟨rfl,.int _⟩ (by simp)⟩
 ·cases e
@[simp] def asBs:List D→Option (List Bool)
 | []=>some []
 | .bl z :: r=>(asBs r).map fun zs=>z :: zs
 | _=>none
theorem asBs_v {H:Hp} {G:Addr→Prop}:∀ {vs:List V} {ds:List D} {zs:List Bool},DAs B H G vs ds→asBs ds=some zs→vs=zs.map V.bl
 | _,_,_,.nil,e=>by cases e; rfl
 | _,_,_,.cons h r,e=>by
  cases h with
  | bl x=>
   simp only [asBs,Option.map_eq_some_iff] at e
   obtain ⟨zs,e1,rfl⟩:=e
   rw [asBs_v r e1]; rfl
  | _=>cases e
@[simp] def fAll:List D→Option SV
 | [.lst ds]=>(asBs ds).map fun bs=>.sh (.bl (bs.all id))
 | _=>none
theorem c_all (hK:B.K=K):CallE B (rAll K) fAll:=by
 subst hK
 intro H G vs ds z Q hg hd e k
 unfold fAll at e
 split at e
 ·rw [Option.map_eq_some_iff] at e
  obtain ⟨bs,e1,rfl⟩:=e
  obtain ⟨v,rfl,d1⟩:=hd.one
  cases d1 with
  | lst h r=>
   have:=asBs_v r e1
   subst this
   exact ⟨_,bs,rfl,h.sq,k _ H G [] Al.refl ⟨rfl,.bl _⟩ (by simp)⟩
 ·cases e
@[simp] def fStr:List D→Option SV
 | [.int i]=>if i.natAbs.log2 < 1920 then some (.sh (.str (toString i))) else none
 | _=>none
@[simp] def fStrF:List D→Option SV
 | [.int i]=>if i.natAbs.log2 < 1920 then some (.sh (.str (toString i))) else none
 | [.str z]=>some (.sh (.str z))
 | _=>none
def rIsC (K:W.Frag):List V→Hp→VK→Prop:=fun xs H Q=>∃ x C t b,xs=[x,.ref C]∧TyOf K H x t∧W.kitOne K t (.ref C)=some b∧Q (.bl b) H
theorem call_isC {X:Cx} (hK:X.K=K):CallR X (.builtin "isinstance") (rIsC K):=by
 subst hK
 intro pins s σ H xs us Q I r h
 obtain ⟨x,C,t,b,rfl,ty,e,q⟩:=h
 obtain ⟨u,c,rfl,ru,rc⟩:=Vals.two r
 cases rc
 exact isinst_ok I ru ty e fun tk=>⟨.bl b,H,I.tok tk,rfl,q⟩
def rIsF (K:W.Frag):List V→Hp→VK→Prop:=fun xs H Q=>rIsinst K xs H Q∨rIsC K xs H Q
theorem call_isF {X:Cx} (hK:X.K=K):CallR X (.builtin "isinstance") (rIsF K):=(call_isinstK hK).or (call_isC hK)
structure KInst (K:W.Frag) (C:Addr):Prop where
 cl:Cls K C
 ha:W.findIn K (.ref C) "__class__"=some (some (.builtin "object.__class__"))
 hn:W.specialIn K (.builtin "object.__class__") "__get__"=some (some (.builtin "getset_descriptor.__get__"))
 htk:W.takesIn K (.builtin "object.__class__")=some true
 hm:W.mroIn K C (.type "object")=some true
def fIsF (tab:Nat→Nat→Option Bool):List D→Option SV
 | [d,.ty n]=>d.kind.bind fun t=>(kitB t n).map fun b=>.sh (.bl b)
 | [.ins c _,.cls C]=>(tab c C).map fun b=>.sh (.bl b)
 | _=>none
theorem c_isF {tab:Nat→Nat→Option Bool} (hK:B.K=K) (ht:∀ c C b,tab c C=some b→KInst B.K (B.cl c)∧W.kitOne B.K (.ref (B.cl c)) (.ref (B.cl C))=some b):CallE B (rIsF K) (fIsF tab):=by
 subst hK
 intro H G vs ds z Q hg hd e k
 unfold fIsF at e
 split at e
 ·exact .inl (c_isi rfl H G vs _ z Q hg hd (by unfold fIsi; exact e) k)
 ·rw [Option.map_eq_some_iff] at e
  obtain ⟨b,e1,rfl⟩:=e
  obtain ⟨v,w,rfl,d1,d2⟩:=hd.two
  cases d2
  cases d1 with
  | ins f h en r=>
   obtain ⟨ki,kk⟩:=ht _ _ _ e1
   exact .inr ⟨_,_,_,b,rfl,.ins h ki.cl ki.ha ki.hn ki.htk ki.hm,kk,k _ H G [] Al.refl ⟨rfl,.bl _⟩ (by simp)⟩
 ·cases e
@[simp] def mAppT (me:FSt→Option SV) (md:FSt→Option D):FSt→Fl:=fun S=>match me S,md S with
 | some (.li xs),some _=>if xs.length < sizeLine then .nx S else .bad
 | _,_=>.bad
@[simp] def mRev (i:Nat):FSt→Fl:=fun S=>match S[i]? with
 | some (some (.li xs))=>.nx (S.set i (some (.li xs.reverse)))
 | _=>.bad
end
section
variable {es:List Expr} {env:Env}
theorem st_Constant {c k pos}:starEach (.Constant c k pos :: es) env=(false,eval (.Constant c k pos) env) :: starEach es env:=rfl
theorem st_Name {x pos}:starEach (.Name x pos :: es) env=(false,eval (.Name x pos) env) :: starEach es env:=rfl
theorem st_Tuple {a b pos}:starEach (.Tuple a b pos :: es) env=(false,eval (.Tuple a b pos) env) :: starEach es env:=rfl
theorem st_List {a pos}:starEach (.List a pos :: es) env=(false,eval (.List a pos) env) :: starEach es env:=rfl
theorem st_BinOp {a o b pos}:starEach (.BinOp a o b pos :: es) env=(false,eval (.BinOp a o b pos) env) :: starEach es env:=rfl
theorem st_UnaryOp {o b pos}:starEach (.UnaryOp o b pos :: es) env=(false,eval (.UnaryOp o b pos) env) :: starEach es env:=rfl
theorem st_BoolOp {o b pos}:starEach (.BoolOp o b pos :: es) env=(false,eval (.BoolOp o b pos) env) :: starEach es env:=rfl
theorem st_Call {a b c pos}:starEach (.Call a b c pos :: es) env=(false,eval (.Call a b c pos) env) :: starEach es env:=rfl
theorem st_Subscript {a b pos}:starEach (.Subscript a b pos :: es) env=(false,eval (.Subscript a b pos) env) :: starEach es env:=rfl
theorem st_Attribute {a b pos}:starEach (.Attribute a b pos :: es) env=(false,eval (.Attribute a b pos) env) :: starEach es env:=rfl
theorem st_ListComp {a b c pos}:starEach (.ListComp a b c pos :: es) env=(false,eval (.ListComp a b c pos) env) :: starEach es env:=rfl
end
end L2
namespace L2
open PySem PySem.Spec PyProof.Rows
section
variable {ι:Type}
structure JD (Xs:ι→Cx) (B:Bk) (e:Expr) (L:List Nat) (m:FSt→Option D):Prop where
 ex:∃ t,(∀ i,PE (Xs i) e t)∧FD B t L m
structure JE (Xs:ι→Cx) (B:Bk) (e:Expr) (L:List Nat) (m:FSt→Option SV):Prop where
 ex:∃ t,(∀ i,PE (Xs i) e t)∧FE B t L m
structure JT (Xs:ι→Cx) (B:Bk) (e:Expr) (m:FSt→Option Bool):Prop where
 ex:∃ t,(∀ i,PT (Xs i) e t)∧FT B t m
structure JW (Xs:ι→Cx) (B:Bk) (e:Expr) (m:FSt→Option Bool):Prop where
 ex:∃ t,(∀ i,PW (Xs i) e t)∧FT B t m
structure JA (Xs:ι→Cx) (B:Bk) (es:List Expr) (L:List Nat) (m:FSt→Option (List D)):Prop where
 ex:∃ t,(∀ i,PA (Xs i) es t)∧FA B t L m
structure JO (Xs:ι→Cx) (B:Bk) (e:Option Expr) (m:FSt→Option (Option Int)):Prop where
 ex:∃ t,(∀ i,PO (Xs i) e t)∧FO B t m
structure JS (Xs:ι→Cx) (B:Bk) (st:Stmt) (m:FSt→Fl):Prop where
 ex:∃ t,(∀ i,PS (Xs i) st t)∧FS B t m
structure JB (Xs:ι→Cx) (B:Bk) (sts:List Stmt) (m:FSt→Fl):Prop where
 ex:∃ t,(∀ i,PSs (Xs i) sts t)∧FS B t m
structure JG (Xs:ι→Cx) (B:Bk) (tg:Expr) (m:D→FSt→Option FSt):Prop where
 ex:∃ t,(∀ i,PG (Xs i) tg t)∧FG B t m
structure JGs (Xs:ι→Cx) (B:Bk) (tgs:List Expr) (m:List D→FSt→Option FSt):Prop where
 ex:∃ t,(∀ i,PGs (Xs i) tgs t)∧FGs B t m
structure JI (Xs:ι→Cx) (B:Bk) (tg iter:Expr) (m:FSt→Option (List D)):Prop where
 ex:∃ t,(∀ i,PI (Xs i) tg iter t)∧FI B t m
structure JIc (Xs:ι→Cx) (B:Bk) (tg iter:Expr) (L:List Nat) (m:FSt→Option (List D)):Prop where
 ex:∃ t,(∀ i,PI (Xs i) tg iter t)∧FIc B t L m
structure JX (Xs:ι→Cx) (P:Program) (w:World) (K:W.Frag) (mg:Str→Option Value) (base:Heap) (k:Nat) (B:Bk):Prop where
 p:∀ i,(Xs i).prog=P
 w':∀ i,(Xs i).w=w
 k':∀ i,(Xs i).K=K
 m:∀ i,(Xs i).mg=mg
 b:∀ i,(Xs i).base=base
 r:∀ i,Room k (Xs i).A
 c:∀ i,(Xs i).calm=true
 bk:B.K=K
 x:∀ i,PassesOwn (model (Xs i).prog (Xs i).w) (Xs i).A (Xs i).env (Xs i).xe
variable {Xs:ι→Cx} {P:Program} {w:World} {K:W.Frag} {mg:Str→Option Value} {base:Heap} {k:Nat} {B:Bk} {a b e o c:Expr} {es:List Expr} {L L' La Lb:List Nat} {ma mb md:FSt→Option D} {me mx my:FSt→Option SV} {mt mu:FSt→Option Bool} {mr:FSt→Option (List D)} {pos:Pos}
theorem JE.asD (h:JE Xs B e L me):JD Xs B e L (mFr me):=let ⟨t,p,f⟩:=h.ex; ⟨⟨t,p,f.fd⟩⟩
theorem JD.asE (h:JD Xs B e L ma):JE Xs B e L (mSh ma):=let ⟨t,p,f⟩:=h.ex; ⟨⟨t,p,f.fe⟩⟩
theorem j_var (i:Nat) {x:Str} (hN:∀ j,(Xs j).N[i]? = some x:=by intro _; rfl) (hv:∀ j,Vis (Xs j).env.scope x:=by intro _; first | exact Or.inl rfl | exact Or.inr (Or.inl rfl) | exact Or.inr (Or.inr rfl)) (hd:(x==("__debug__":Str))=false:=by decide) (hcd:(x==("__classdict__":Str))=false:=by decide):JD Xs B (.Name x pos) [i] (mV i):=
 ⟨⟨_,fun j=>pe_var (hN j) (hv j) hd hcd,fd_var i⟩⟩
theorem j_int {i:Int} {j}:JD Xs B (.Constant (.int i) j pos) [] (mC (.int i)):=⟨⟨_,fun _=>pe_int,fd_C (.int _)⟩⟩
theorem j_bl {i:Bool} {j}:JD Xs B (.Constant (.bool i) j pos) [] (mC (.bl i)):=⟨⟨_,fun _=>pe_bl,fd_C (.bl _)⟩⟩
theorem j_non {j}:JD Xs B (.Constant .none j pos) [] (mC .non):=⟨⟨_,fun _=>pe_non,fd_C .non⟩⟩
theorem j_str {x:Str} {j}:JD Xs B (.Constant (.str x) j pos) [] (mC (.str x)):=⟨⟨_,fun _=>pe_str,fd_C (.str _)⟩⟩
theorem j_gcI (jx:JX Xs P w K mg base k B) {x:Str} {i:Int} (h:GC mg x (.int i)) (hg:∀ j,Gl (Xs j) x:=by intro _; rfl) (hd:(x==("__debug__":Str))=false:=by decide):JD Xs B (.Name x pos) [] (mC (.int i)):=⟨⟨_,fun j=>pe_gc (hg j) (jx.m j▸h) hd,fd_C (.int _)⟩⟩
theorem j_gcS (jx:JX Xs P w K mg base k B) {x:Str} {i:Str} (h:GC mg x (.str i)) (hg:∀ j,Gl (Xs j) x:=by intro _; rfl) (hd:(x==("__debug__":Str))=false:=by decide):JD Xs B (.Name x pos) [] (mC (.str i)):=⟨⟨_,fun j=>pe_gc (hg j) (jx.m j▸h) hd,fd_C (.str _)⟩⟩
theorem j_ty (jx:JX Xs P w K mg base k B) {x:Str} {n:String} (h:mg x=none) (hv:bootBuiltins x=some (.type n)) (hg:∀ j,Gl (Xs j) x:=by intro _; rfl) (hn:x≠"__name__":=by decide) (hd:(x==("__debug__":Str))=false:=by decide):JD Xs B (.Name x pos) [] (mC (.ty n)):=
 ⟨⟨_,fun j=>pe_bltn (v:=.ty n) (hg j) (jx.m j▸h) hv rfl hn hd,fd_C (.ty _)⟩⟩
theorem j_op {op:Operator} {r:R2} {f:D→D→Option D} (ho:∀ i,OpR (Xs i) (binaryOp op) r) (hf:OpD B r f) (ha:JD Xs B a La ma) (hb:JD Xs B b Lb mb):JD Xs B (.BinOp a op b pos) (La++Lb) (m2 f ma mb):=
 let ⟨_,pa,fa⟩:=ha.ex; let ⟨_,pb,fb⟩:=hb.ex; ⟨⟨_,fun i=>pe_op (ho i) (pa i) (pb i),fd_op hf fa fb⟩⟩
theorem j_add (jx:JX Xs P w K mg base k B) (ha:JD Xs B a La ma) (hb:JD Xs B b Lb mb):JE Xs B (.BinOp a .Add b pos) (La++Lb) (m2 oAdd ma mb):=
 let ⟨_,pa,fa⟩:=ha.ex; let ⟨_,pb,fb⟩:=hb.ex; ⟨⟨_,fun i=>pe_op (op_addK (jx.k' i)) (pa i) (pb i),fe_op (e_add jx.bk) fa fb⟩⟩
theorem j_mul (ha:JD Xs B a La ma) (hb:JD Xs B b Lb mb):JE Xs B (.BinOp a .Mult b pos) (La++Lb) (m2 oMul ma mb):=
 let ⟨_,pa,fa⟩:=ha.ex; let ⟨_,pb,fb⟩:=hb.ex; ⟨⟨_,fun i=>pe_op op_mulG (pa i) (pb i),fe_op e_mul fa fb⟩⟩
structure JCmp (Xs:ι→Cx) (B:Bk) (op:CmpOp) (f:D→D→Option D):Prop where
 ex:∃ r,(∀ i,OpR (Xs i) (compareOp op) r)∧OpD B r f
theorem c_eq (jx:JX Xs P w K mg base k B):JCmp Xs B .Eq oEq:=⟨⟨_,fun i=>op_eqD (jx.k' i) (jx.r i).c64,od_eq jx.bk⟩⟩
theorem c_ne (jx:JX Xs P w K mg base k B):JCmp Xs B .NotEq oNe:=⟨⟨_,fun i=>op_neD (jx.k' i) (jx.r i).c64,od_ne jx.bk⟩⟩
theorem c_in (jx:JX Xs P w K mg base k B):JCmp Xs B .In oIn:=⟨⟨_,fun i=>op_inE (jx.k' i) (jx.r i).c64,od_in jx.bk⟩⟩
theorem c_notIn (jx:JX Xs P w K mg base k B):JCmp Xs B .NotIn oNotIn:=⟨⟨_,fun i=>op_notInE (jx.k' i) (jx.r i).c64,od_notIn jx.bk⟩⟩
theorem c_lt:JCmp Xs B .Lt oLt:=⟨⟨_,fun _=>op_lt,od_lt⟩⟩
theorem c_le:JCmp Xs B .LtE oLe:=⟨⟨_,fun _=>op_le,od_le⟩⟩
theorem c_gt:JCmp Xs B .Gt oGt:=⟨⟨_,fun _=>op_gt,od_gt⟩⟩
theorem c_ge:JCmp Xs B .GtE oGe:=⟨⟨_,fun _=>op_ge,od_ge⟩⟩
theorem j_cmp {op:CmpOp} {f:D→D→Option D} (hc:JCmp Xs B op f) (ha:JD Xs B a La ma) (hb:JD Xs B b Lb mb) (hm:behindInMarks op b=false:=by first | exact nomark _ | rfl):JD Xs B (.Compare a [op] [b] pos) (La++Lb) (m2 f ma mb):=
 let ⟨_,ho,hf⟩:=hc.ex; let ⟨_,pa,fa⟩:=ha.ex; let ⟨_,pb,fb⟩:=hb.ex; ⟨⟨_,fun i=>pe_cmpR (ho i) (pa i) (pb i) hm,fd_op hf fa fb⟩⟩
theorem jt_cmp {op:CmpOp} {f:D→D→Option D} (hc:JCmp Xs B op f) (ha:JD Xs B a La ma) (hb:JD Xs B b Lb mb) (hm:behindInMarks op b=false:=by first | exact nomark _ | rfl):JT Xs B (.Compare a [op] [b] pos) (mTruth (m2 f ma mb)):=
 let ⟨_,ho,hf⟩:=hc.ex; let ⟨_,pa,fa⟩:=ha.ex; let ⟨_,pb,fb⟩:=hb.ex; ⟨⟨_,fun i=>pt_cmpR (ho i) (pa i) (pb i) hm,ft_of (fd_op hf fa fb)⟩⟩
theorem jt_val (h:JD Xs B e L ma) (he:∀ i whole,isTrue e (Xs i).env whole=(do let v ← whole; standAt e.pos; holding [v] (truthy v)):=by intro _ _; rfl):JT Xs B e (mTruth ma):=let ⟨_,p,f⟩:=h.ex; ⟨⟨_,fun i=>pt_val (p i) (he i),ft_val f⟩⟩
theorem jt_not (h:JT Xs B a mt):JT Xs B (.UnaryOp .Not a pos) (mNot mt):=let ⟨_,p,f⟩:=h.ex; ⟨⟨_,fun i=>pt_not (p i),ft_not f⟩⟩
theorem JW.t (h:JW Xs B a mt):JT Xs B a mt:=let ⟨_,p,f⟩:=h.ex; ⟨⟨_,fun i=>(p i).pt,f⟩⟩
theorem jw_and1 (h:JT Xs B a mt):JW Xs B (.BoolOp .And [a] pos) mt:=let ⟨_,p,f⟩:=h.ex; ⟨⟨_,fun i=>pw_and1 (p i),f⟩⟩
theorem jw_or1 (h:JT Xs B a mt):JW Xs B (.BoolOp .Or [a] pos) mt:=let ⟨_,p,f⟩:=h.ex; ⟨⟨_,fun i=>pw_or1 (p i),f⟩⟩
theorem jw_and {rest:List Expr} (h:JT Xs B a mt) (h':JW Xs B (.BoolOp .And (b :: rest) pos) mu):JW Xs B (.BoolOp .And (a :: b :: rest) pos) (mAnd mt mu):=let ⟨_,p,f⟩:=h.ex; let ⟨_,p',f'⟩:=h'.ex; ⟨⟨_,fun i=>pw_and (p i) (p' i),ft_and f f'⟩⟩
theorem jw_or {rest:List Expr} (h:JT Xs B a mt) (h':JW Xs B (.BoolOp .Or (b :: rest) pos) mu):JW Xs B (.BoolOp .Or (a :: b :: rest) pos) (mOr mt mu):=let ⟨_,p,f⟩:=h.ex; let ⟨_,p',f'⟩:=h'.ex; ⟨⟨_,fun i=>pw_or (p i) (p' i),ft_or f f'⟩⟩
theorem j_one {op} (h:JD Xs B a L ma):JD Xs B (.BoolOp op [a] pos) L ma:=let ⟨_,p,f⟩:=h.ex; ⟨⟨_,fun i=>pe_one (p i),f⟩⟩
theorem j_and {rest:List Expr} (h:JD Xs B a La ma) (h':JD Xs B (.BoolOp .And (b :: rest) pos) Lb mb):JD Xs B (.BoolOp .And (a :: b :: rest) pos) (La++Lb) (mIte (mTruth ma) mb (mC (.bl false))):=let ⟨_,p,f⟩:=h.ex; let ⟨_,p',f'⟩:=h'.ex; ⟨⟨_,fun i=>pe_and (p i) (p' i),fd_andV f f'⟩⟩
theorem j_not (h:JD Xs B a L ma):JD Xs B (.UnaryOp .Not a pos) L (mBl (mNot (mTruth ma))):=let ⟨_,p,f⟩:=h.ex; ⟨⟨_,fun i=>pe_not (p i),fd_notV f⟩⟩
theorem j_neg (h:JD Xs B a L ma):JD Xs B (.UnaryOp .USub a pos) L (m1 oNeg ma):=let ⟨_,p,f⟩:=h.ex; ⟨⟨_,fun i=>pe_un un_neg (p i),fd_un od_neg f⟩⟩
theorem ja_nil:JA Xs B [] [] mNil:=⟨⟨_,fun _=>pa_nil,fa_nil⟩⟩
theorem ja_cons (ha:JD Xs B e La ma) (hr:JA Xs B es Lb mr) (hs:∀ i,starEach (e :: es) (Xs i).env=(false,eval e (Xs i).env) :: starEach es (Xs i).env):JA Xs B (e :: es) (La++Lb) (mCons ma mr):=let ⟨_,p,f⟩:=ha.ex; let ⟨_,p',f'⟩:=hr.ex; ⟨⟨_,fun i=>pa_cons (p i) (p' i) (hs i),fa_cons f f'⟩⟩
theorem j_lst (h:JA Xs B es L mr):JE Xs B (.List es pos) L (mLst mr):=let ⟨_,p,f⟩:=h.ex; ⟨⟨_,fun i=>pe_lst (p i),fe_lst f⟩⟩
theorem j_tup {x1} (h:JA Xs B es L mr):JD Xs B (.Tuple es x1 pos) L (mTup mr):=let ⟨_,p,f⟩:=h.ex; ⟨⟨_,fun i=>pe_tup (p i),fd_tup f⟩⟩
theorem j_newK:JE Xs B (.Dict [] [] pos) [] mDK:=⟨⟨_,fun _=>pe_dnewK,fe_newK⟩⟩
theorem j_newT:JE Xs B (.Dict [] [] pos) [] mDT:=⟨⟨_,fun _=>pe_dnewT,fe_newT⟩⟩
theorem j_fldv (jx:JX Xs P w K mg base k B) (i:Nat) {x f:Str} {cs:List Nat} {p1:Pos} (hc:∀ c∈cs,Cls B.K (B.cl c)∧NoAttr B.K (B.cl c) f) (h:JD Xs B (.Name x p1) [i] (mV i)) (hN:∀ j,(Xs j).N[i]? = some x:=by intro _; rfl) (hv:∀ j,Vis (Xs j).env.scope x:=by intro _; first | exact Or.inl rfl | exact Or.inr (Or.inl rfl) | exact Or.inr (Or.inr rfl))
  (hb:∀ j,attributeBase (.Name x p1) f (Xs j).env (eval (.Name x p1) (Xs j).env)=eval (.Name x p1) (Xs j).env:=by intro _; rfl) (hd:(x==("__debug__":Str))=false:=by decide) (hcd:(x==("__classdict__":Str))=false:=by decide):JD Xs B (.Attribute (.Name x p1) f pos) [] (m1 (fFld cs f) (mV i)):=
 ⟨⟨_,fun j=>pe_fldK (jx.k' j) (pe_var (hN j) (hv j) hd hcd) (hb j),fd_fldv jx.bk hc⟩⟩
theorem jo_none:JO Xs B none mNo:=⟨⟨_,fun _=>po_none,fo_none⟩⟩
theorem jo_some (h:JD Xs B e L ma):JO Xs B (some e) (mAt ma):=let ⟨_,p,f⟩:=h.ex; ⟨⟨_,fun i=>po_some (p i),fo_some f⟩⟩
theorem j_sl (jx:JX Xs P w K mg base k B) {lo hi:Option Expr} {ml mh:FSt→Option (Option Int)} {p2:Pos} (h:JD Xs B e L ma) (hl:JO Xs B lo ml) (hh:JO Xs B hi mh):JE Xs B (.Subscript e (.Slice lo hi none p2) pos) L (mSl ma ml mh):=
 let ⟨_,p,f⟩:=h.ex; let ⟨_,p',f'⟩:=hl.ex; let ⟨_,q,g⟩:=hh.ex; ⟨⟨_,fun i=>pe_slice (sl_seqE (jx.k' i)) (p i) (p' i) (q i),fe_sl jx.bk f f' g⟩⟩
theorem j_get (jx:JX Xs P w K mg base k B) (ha:JD Xs B a La ma) (hb:JD Xs B b Lb mb) (hs:NoSl b:=by intros _ _; rfl):JD Xs B (.Subscript a b pos) (La++Lb) (m2 oGet ma mb):=
 let ⟨_,p,f⟩:=ha.ex; let ⟨_,p',f'⟩:=hb.ex; ⟨⟨_,fun i=>pe_dget (hu_of (jx.r i)) (p i) (p' i) hs,fd_get f f'⟩⟩
theorem j_ix (jx:JX Xs P w K mg base k B) (ha:JD Xs B a La ma) (hb:JD Xs B b Lb mb) (hs:PlainIx b:=by intros _ _; rfl):JD Xs B (.Subscript a b pos) (La++Lb) (m2 oIx ma mb):=
 let ⟨_,p,f⟩:=ha.ex; let ⟨_,p',f'⟩:=hb.ex; ⟨⟨_,fun i=>pe_ix (ix_seqK (jx.k' i)) (p i) (p' i) hs,fd_op (od_ix jx.bk) f f'⟩⟩
theorem JX.fn (jx:JX Xs P w K mg base k B) {CX:CXT} {n:Nat} {f:Addr} {fd:FuncData} {ps:List Str} {sp:Sp} (F:FnOk P w K mg base CX n f fd ps sp) (i:ι):FnOk (Xs i).prog (Xs i).w (Xs i).K (Xs i).mg (Xs i).base CX n f fd ps sp:=by
 rw [jx.p i,jx.w' i,jx.k' i,jx.m i,jx.b i]; exact F
theorem j_call (jx:JX Xs P w K mg base k B) {n nf:Nat} {f:Addr} {fd:FuncData} {ps:List Str} {fn:List D→Option SV} {x:Str} {p:Pos} (F:FnOk P w K mg base CX0 n f fd ps (SpF B nf fn)) (hn:n≤k) (hm:mg x=some (.ref f)) (hk:W.keepIn K (.ref f)=true) (hb:Binds K fd ps []) (hf:∀ ds z,fn ds=some z→ds.length=nf)
  (ha:JA Xs B (e :: es) L mr) (he:∀ i,starEach (e :: es) (Xs i).env=(false,eval e (Xs i).env) :: starEach es (Xs i).env) (hg:∀ j,Gl (Xs j) x:=by intro _; rfl) (hpl:∀ i,(backTo pos (starEach es (Xs i).env)).any (·.1)=false:=by intro _; rfl) (hdb:(x==("__debug__":Str))=false:=by decide) :
  JE Xs B (.Call (.Name x p) (e :: es) [] pos) L (m1 fn mr):=
 let ⟨_,q,g⟩:=ha.ex; ⟨⟨_,fun i=>pe_call (jx.fn F i) ((jx.r i).mono hn) (hg i) (jx.m i▸hm) (jx.k' i▸hk) (jx.k' i▸hb) .nil pass0 (q i) hdb (he i) (hpl i),fe_call hf g⟩⟩
theorem j_make (jx:JX Xs P w K mg base k B) {n nf cn:Nat} {f C:Addr} {fd:FuncData} {ps:List Str} {fn:Nat→List D→Option (List (Str×D))} {x:Str} {p:Pos} (M:Mk K C f) (F:FnOk P w K mg base CX0 n f fd ps (SpI B nf fn)) (hn:n+1≤k) (hm:mg x=some (.ref C)) (hb:Binds K fd ps []) (hC:B.cl cn=C) (hf:∀ c ds z,fn c ds=some z→ds.length+1=nf)
  (ha:JA Xs B (e :: es) L mr) (he:∀ i,starEach (e :: es) (Xs i).env=(false,eval e (Xs i).env) :: starEach es (Xs i).env) (hg:∀ j,Gl (Xs j) x:=by intro _; rfl) (hpl:∀ i,(backTo pos (starEach es (Xs i).env)).any (·.1)=false:=by intro _; rfl) (hdb:(x==("__debug__":Str))=false:=by decide) :
  JE Xs B (.Call (.Name x p) (e :: es) [] pos) L (mMake cn fn mr):=
 let ⟨_,q,g⟩:=ha.ex; ⟨⟨_,fun i=>pe_make (jx.k' i▸M) (jx.fn F i) ((jx.r i).mono hn) (hg i) (jx.m i▸hm) (jx.k' i▸hb) .nil pass0 (q i) hdb (he i) (hpl i),fe_make hC hf g⟩⟩
theorem j_meth (jx : JX Xs P w K mg base k B) {n nf cn : Nat} {f C : Addr} {fd : FuncData} {ps : List Str} {fn : List D → Option SV} {m : Str} {apos : Pos} {pl : ι → Sem Bool} (ho : JD Xs B o La ma) (cc : Cls K C) (hm : Meth K C m f) (F : FnOk P w K mg base CX0 n f fd ps (SpF B nf fn)) (hn : n ≤ k) (hb : Binds K fd ps []) (hC : B.cl cn = C) (hf : ∀ ds z, fn ds = some z → ds.length = nf)
    (ha : JA Xs B (e :: es) Lb mr) (he : ∀ i, starEach (e :: es) (Xs i).env = (false, eval e (Xs i).env) :: starEach es (Xs i).env) (hpl : ∀ i, (backTo pos (starEach es (Xs i).env)).any (·.1) = false := by intro _; rfl)
    (ht : ∀ i, eval (.Call (.Attribute o m apos) (e :: es) [] pos) (Xs i).env = (do
      let ov ← eval o (Xs i).env
      standAt apos.atName
      let (f, first) ← holding [ov] (getMethod ov m (pl i))
      callWith pos f first (backTo pos (starEach (e :: es) (Xs i).env)) (backToKw pos (keywordEach [] (Xs i).env))) := by intro _; rfl) : JE Xs B (.Call (.Attribute o m apos) (e :: es) [] pos) (La ++ Lb) (mMeth cn m fn ma mr) :=
  let ⟨_, p, g⟩ := ho.ex; let ⟨_, q, g'⟩ := ha.ex; ⟨⟨_, fun i => pe_meth (p i) (jx.k' i ▸ cc) (jx.k' i ▸ hm) (jx.fn F i) ((jx.r i).mono hn) (jx.k' i ▸ hb) .nil pass0 (q i) (he i) (hpl i) (ht i), fe_meth hC hf g g'⟩⟩
theorem j_meth0 (jx : JX Xs P w K mg base k B) {n nf cn : Nat} {f C : Addr} {fd : FuncData} {ps : List Str} {fn : List D → Option SV} {m : Str} {apos : Pos} {pl : ι → Sem Bool} (ho : JD Xs B o La ma) (cc : Cls K C) (hm : Meth K C m f) (F : FnOk P w K mg base CX0 n f fd ps (SpF B nf fn)) (hn : n ≤ k) (hb : Binds K fd ps []) (hC : B.cl cn = C) (hf : ∀ ds z, fn ds = some z → ds.length = nf)
    (ht : ∀ i, eval (.Call (.Attribute o m apos) [] [] pos) (Xs i).env = (do
      let ov ← eval o (Xs i).env
      standAt apos.atName
      let (f, first) ← holding [ov] (getMethod ov m (pl i))
      callWith pos f first (backTo pos (starEach [] (Xs i).env)) (backToKw pos (keywordEach [] (Xs i).env))) := by intro _; rfl) : JE Xs B (.Call (.Attribute o m apos) [] [] pos) (La ++ []) (mMeth cn m fn ma mNil) :=
  let ⟨_, p, g⟩ := ho.ex; ⟨⟨_, fun i => pe_meth0 (p i) (jx.k' i ▸ cc) (jx.k' i ▸ hm) (jx.fn F i) ((jx.r i).mono hn) (jx.k' i ▸ hb) .nil pass0 (ht i), fe_meth hC hf g fa_nil⟩⟩
structure JCall (Xs:ι→Cx) (B:Bk) (v:Value) (f:List D→Option SV):Prop where
 ex:∃ r,(∀ i,CallR (Xs i) v r)∧CallE B r f
theorem b_len (jx:JX Xs P w K mg base k B):JCall Xs B (.builtin "len") fLen:=⟨⟨_,fun i=>call_lenF (jx.k' i),c_len jx.bk⟩⟩
theorem b_isi (jx:JX Xs P w K mg base k B) {tab:Nat→Nat→Option Bool} (ht:∀ c C b,tab c C=some b→KInst B.K (B.cl c)∧W.kitOne B.K (.ref (B.cl c)) (.ref (B.cl C))=some b):JCall Xs B (.builtin "isinstance") (fIsF tab):=⟨⟨_,fun i=>call_isF (jx.k' i),c_isF jx.bk ht⟩⟩
theorem b_max (jx:JX Xs P w K mg base k B):JCall Xs B (.builtin "max") fMax:=⟨⟨_,fun i=>call_max2 (jx.c i),c_max⟩⟩
theorem b_min (jx:JX Xs P w K mg base k B):JCall Xs B (.builtin "min") fMin:=⟨⟨_,fun i=>call_min2 (jx.c i),c_min⟩⟩
theorem b_all (jx:JX Xs P w K mg base k B):JCall Xs B (.builtin "all") fAll:=⟨⟨_,fun i=>call_allK (jx.k' i) (jx.c i),c_all jx.bk⟩⟩
theorem b_list (jx:JX Xs P w K mg base k B):JCall Xs B (.type "list") fList:=⟨⟨_,fun i=>call_listF (jx.k' i) (jx.c i),c_list jx.bk⟩⟩
theorem b_tuple (jx:JX Xs P w K mg base k B):JCall Xs B (.type "tuple") fTuple:=⟨⟨_,fun i=>call_tupleK (jx.k' i),c_tuple jx.bk⟩⟩
theorem j_callB (jx:JX Xs P w K mg base k B) {id:String} {f:List D→Option SV} {x:Str} {p:Pos} (hc:JCall Xs B (.builtin id) f) (hm:mg x=none) (hv:bootBuiltins x=some (.builtin id)) (ha:JA Xs B (e :: es) L mr) (he:∀ i,starEach (e :: es) (Xs i).env=(false,eval e (Xs i).env) :: starEach es (Xs i).env)
  (hg:∀ j,Gl (Xs j) x:=by intro _; rfl) (hn:x≠"__name__":=by decide) (hdb:(x==("__debug__":Str))=false:=by decide) (hpl:∀ i,(backTo pos (starEach es (Xs i).env)).any (·.1)=false:=by intro _; rfl):JE Xs B (.Call (.Name x p) (e :: es) [] pos) L (m1 f mr):=
 let ⟨_,c1,c2⟩:=hc.ex; let ⟨_,q,g⟩:=ha.ex; ⟨⟨_,fun i=>pe_callB (c1 i) (hg i) (jx.m i▸hm) hv (q i) hn hdb (he i) (hpl i),fe_CB c2 g⟩⟩
theorem j_callTy (jx:JX Xs P w K mg base k B) {T:String} {f:List D→Option SV} {x:Str} {p:Pos} (hc:JCall Xs B (.type T) f) (hm:mg x=none) (hv:bootBuiltins x=some (.type T)) (ha:JA Xs B (e :: es) L mr) (he:∀ i,starEach (e :: es) (Xs i).env=(false,eval e (Xs i).env) :: starEach es (Xs i).env)
  (hg:∀ j,Gl (Xs j) x:=by intro _; rfl) (hn:x≠"__name__":=by decide) (hdb:(x==("__debug__":Str))=false:=by decide) (hpl:∀ i,(backTo pos (starEach es (Xs i).env)).any (·.1)=false:=by intro _; rfl):JE Xs B (.Call (.Name x p) (e :: es) [] pos) L (m1 f mr):=
 let ⟨_,c1,c2⟩:=hc.ex; let ⟨_,q,g⟩:=ha.ex; ⟨⟨_,fun i=>pe_callTy (c1 i) (hg i) (jx.m i▸hm) hv (q i) hn hdb (he i) (hpl i),fe_CB c2 g⟩⟩
structure JMt (Xs:ι→Cx) (B:Bk) (K:W.Frag) (T:String) (name:Str) (f:D→List D→Option SV):Prop where
 ex:∃ r id,PlainAttrs T∧Slot T name id∧typeOf (.builtin id)=pure (.type "method_descriptor")∧(∀ i,MtR (Xs i) id r)∧MtT B K T f∧MtE B K T r f
theorem mm_join (jx:JX Xs P w K mg base k B):JMt Xs B K "str" "join" oJoin:=⟨⟨_,_,PySem.F.plainAttrs_str,PySem.F.slot_str_join,PySem.F.type_str_join,fun i=>mt_joinK (jx.k' i),t_join,mt_joinE jx.bk⟩⟩
theorem mm_bitlen:JMt Xs B K "int" "bit_length" oBitLen:=⟨⟨_,_,PySem.F.plainAttrs_int,PySem.F.slot_int_bit_length,PySem.F.type_int_bit_length,fun _=>mt_bitlen,t_bitlen,mt_bitlenE⟩⟩
theorem j_bm0 (jx:JX Xs P w K mg base k B) {T:String} {name:Str} {f:D→List D→Option SV} {apos cpos:Pos} (hm:JMt Xs B K T name f) (ho:JD Xs B o La ma)
  (hbase:∀ i,attributeBase o name (Xs i).env (eval o (Xs i).env)=eval o (Xs i).env:=by intro _; rfl) (hline:(apos.endLine==cpos.line)=true:=by rfl):JE Xs B (.Call (.Attribute o name apos) [] [] cpos) La (mBM f ma mNil):=
 let ⟨_,_,h1,h2,h3,h4,h5,h6⟩:=hm.ex; let ⟨_,p,g⟩:=ho.ex; ⟨⟨_,fun i=>pe_bm0K (jx.k' i) h1 h2 h3 (h4 i) (p i) (hbase i) hline,fe_bm0 h5 h6 g⟩⟩
theorem jg_name (i:Nat) {x:Str} (hN:∀ j,(Xs j).N.Nodup) (hx:∀ j,Loc (Xs j).env.scope x) (hi:∀ j,(Xs j).N[i]? = some x:=by intro _; rfl) (hf:∀ j,(Xs j).fn x=true∨(Xs j).env.scope.names.lookup x=some .local:=by intro _; first | exact .inl rfl | exact .inr rfl):JG Xs B (.Name x pos) (gN i):=⟨⟨_,fun j=>pg_name (hN j) (hi j) (hx j) (hf j),fg_name i⟩⟩
theorem jgs_nil:JGs Xs B [] gNs:=⟨⟨_,fun _=>pgs_nil,fgs_nil⟩⟩
theorem jgs_cons {g1:D→FSt→Option FSt} {g2:List D→FSt→Option FSt} (h1:JG Xs B e g1) (h2:JGs Xs B es g2) (hs:∀ i,(assignEach (e :: es) (Xs i).env).map (·.2)=assign e (Xs i).env :: (assignEach es (Xs i).env).map (·.2):=by intro _; rfl):JGs Xs B (e :: es) (gCs g1 g2):=let ⟨_,p,f⟩:=h1.ex; let ⟨_,q,g⟩:=h2.ex; ⟨⟨_,fun i=>pgs_cons (p i) (q i) (hs i),fgs_cons f g⟩⟩
theorem jg_seq (jx:JX Xs P w K mg base k B) {n:Nat} {k1:Nat} {g2:List D→FSt→Option FSt} (h:JGs Xs B es g2) (hn:∀ i,(assignEach es (Xs i).env).length=n:=by intro _; rfl) (hst:∀ i,(assignEach es (Xs i).env).findIdx? (·.1)=none:=by intro _; rfl):JG Xs B (.Tuple es k1 pos) (gSq n g2):=let ⟨_,p,f⟩:=h.ex; ⟨⟨_,fun i=>pg_seqK (jx.k' i) (jx.c i) (p i) (hn i) (hst i),fg_seq jx.bk f⟩⟩
theorem jc_seq (jx:JX Xs P w K mg base k B) {tg:Expr} (h:JD Xs B e L ma):JIc Xs B tg e L (mItc ma):=let ⟨_,p,f⟩:=h.ex; ⟨⟨_,fun i=>pi_seqK (jx.k' i) (p i),fic_seq jx.bk f⟩⟩
theorem JI.asC {tg:Expr} (h:JI Xs B tg e mr):JIc Xs B tg e [] mr:=let ⟨_,p,f⟩:=h.ex; ⟨⟨_,p,f.c⟩⟩
theorem ji_rng1 (jx:JX Xs P w K mg base k B) {tg:Expr} {p:Pos} (hm:mg "range"=none) (ha:JA Xs B [a] L mr) (hs:∀ i,starEach [a] (Xs i).env=[(false,eval a (Xs i).env)]:=by intro _; rfl) (hg:∀ i,Gl (Xs i) "range":=by intro _; rfl):JI Xs B tg (.Call (.Name "range" p) [a] [] pos) (mR1 mr):=let ⟨_,q,f⟩:=ha.ex; ⟨⟨_,fun i=>pi_range1 (hg i) (jx.m i▸hm) (q i) (hs i),wi_rng1 f⟩⟩
structure JIf (Xs:ι→Cx) (B:Bk) (ifs:List Expr) (m:FSt→Option Bool):Prop where
 ex:∃ t,(∀ i,PIf (Xs i) ifs t)∧FT B t m
theorem jif_nil:JIf Xs B [] mTrue:=⟨⟨_,fun _=>pif_nil,ft_true⟩⟩
theorem jif_one (h:JT Xs B a mt):JIf Xs B [a] mt:=let ⟨_,p,f⟩:=h.ex; ⟨⟨_,fun i=>pif_one (p i),f⟩⟩
abbrev JC (Xs:ι→Cx) (scope:Scope) (N:List Str):ι×List Addr×Shared×Hp→Cx:=fun j=>(Xs j.1).comp scope N j.2.1 j.2.2.1 j.2.2.2
theorem JX.comp (jx:JX Xs P w K mg base k B) (scope:Scope) (N:List Str):JX (JC Xs scope N) P w K mg base k B:=
 ⟨fun i=>jx.p i.1,fun i=>jx.w' i.1,fun i=>jx.k' i.1,fun i=>jx.m i.1,fun i=>jx.b i.1,fun i=>jx.r i.1,fun i=>jx.c i.1,jx.bk,fun i=>PassesOwn.never⟩
theorem j_comp (jx:JX Xs P w K mg base k B) {NX N:List Str} {SX scope:Scope} {own:Nat} {fi Li:List Nat} {tg iter elt:Expr} {ifs:List Expr} {mi:FSt→Option (List D)} {g1:D→FSt→Option FSt} (S:CompScope NX SX scope N own fi) (hi:JIc Xs B tg iter Li mi) (hg:JG (JC Xs scope N) B tg g1) (ht:JIf (JC Xs scope N) B ifs mt) (he:JD (JC Xs scope N) B elt L ma)
  (hN:∀ i,(Xs i).N=NX:=by intro _; rfl) (hS:∀ i,(Xs i).env.scope=SX:=by intro _; rfl) (hs:∀ i x,foldedSetIterable iter (Xs i).env x=pure x:=by intro _ _; rfl):JE Xs B (.ListComp elt [⟨tg,iter,ifs,0⟩] scope pos) (fi++Li) (mComp own fi mi g1 mt ma):=
 let ⟨_,p1,f1⟩:=hi.ex; let ⟨_,p2,f2⟩:=hg.ex; let ⟨_,p3,f3⟩:=ht.ex; let ⟨_,p4,f4⟩:=he.ex
 ⟨⟨_,fun i=>pe_comp S (jx.c i) (p1 i) (fun ex s H=>p2 (i,ex,s,H)) (fun ex s H=>p3 (i,ex,s,H)) (fun ex s H=>p4 (i,ex,s,H)) (hN i) (hS i) (hs i),fe_comp f1 f2 f3 f4⟩⟩
variable {mf mh:FSt→Fl} {st:Stmt} {sts ss:List Stmt}
theorem js_setcomp (jx:JX Xs P w K mg base k B) (i:Nat) {y:Str} {py spos:Pos} {NX N:List Str} {SX scope:Scope} {own:Nat} {fi Li L':List Nat} {tg iter elt:Expr} {ifs:List Expr} {mi:FSt→Option (List D)} {g1:D→FSt→Option FSt} (hnd:∀ j,(Xs j).N.Nodup) (S:CompScope NX SX scope N own fi) (hi:JIc Xs B tg iter Li mi) (hg:JG (JC Xs scope N) B tg g1) (ht:JIf (JC Xs scope N) B ifs mt) (he:JD (JC Xs scope N) B elt L ma)
  (hy:∀ j,(Xs j).N[i]? = some y:=by intro _; rfl) (hl:∀ j,(Xs j).env.scope.names.lookup y=some .local:=by intro _; rfl)
  (hN:∀ i,(Xs i).N=NX:=by intro _; rfl) (hS:∀ i,(Xs i).env.scope=SX:=by intro _; rfl) (hs:∀ i x,foldedSetIterable iter (Xs i).env x=pure x:=by intro _ _; rfl)
  (hsw:∀ j,swapsWith (.ListComp elt [⟨tg,iter,ifs,0⟩] scope pos) (some (.Name y py)) spos.line (Xs j).env=pure true:=by intro _; rfl) (hl':((fi++Li).all fun i=>L'.contains i)=true:=by rfl):JS Xs B (.Assign [.Name y py] (.ListComp elt [⟨tg,iter,ifs,0⟩] scope pos) spos) (mSet i L' (mComp own fi mi g1 mt ma)):=
 let ⟨_,p1,f1⟩:=hi.ex; let ⟨_,p2,f2⟩:=hg.ex; let ⟨_,p3,f3⟩:=ht.ex; let ⟨_,p4,f4⟩:=he.ex
 ⟨⟨_,fun i=>ps_setcomp (hnd i) (hy i) (hl i) S (jx.c i) (p1 i) (fun ex s H=>p2 (i,ex,s,H)) (fun ex s H=>p3 (i,ex,s,H)) (fun ex s H=>p4 (i,ex,s,H)) (hN i) (hS i) (hs i) (hsw i),ws_set (te:=tComp _ _ _ _ _ _) L' (fe_comp f1 f2 f3 f4) hl'⟩⟩
theorem js_set (i:Nat) {x:Str} {p1:Pos} {L':List Nat} (hnd:∀ j,(Xs j).N.Nodup) (hx:∀ j,Loc (Xs j).env.scope x) (he:JE Xs B e L me) (hi:∀ j,(Xs j).N[i]? = some x:=by intro _; rfl) (hs:∀ j,swapsWith e (some (.Name x p1)) pos.line (Xs j).env=pure false:=by intro _; rfl)
  (hf:∀ j,(Xs j).fn x=true∨(Xs j).env.scope.names.lookup x=some .local:=by intro _; first | exact .inl rfl | exact .inr rfl) (hl:(L.all fun i=>L'.contains i)=true:=by rfl):JS Xs B (.Assign [.Name x p1] e pos) (mSet i L' me):=
 let ⟨_,p,f⟩:=he.ex; ⟨⟨_,fun j=>ps_set (hnd j) (hi j) (hx j) (p j) (hs j) (hf j),ws_set L' f hl⟩⟩
theorem js_put (jx:JX Xs P w K mg base k B) (i:Nat) {x:Str} {p1 p2:Pos} {L':List Nat} (hb:JD Xs B b Lb mb) (he:JD Xs B e L md) (hN:∀ j,(Xs j).N[i]? = some x:=by intro _; rfl) (hv:∀ j,Vis (Xs j).env.scope x:=by intro _; first | exact Or.inl rfl | exact Or.inr (Or.inl rfl) | exact Or.inr (Or.inr rfl)) (hs:∀ j,swapsWith e (some (.Subscript (.Name x p1) b p2)) pos.line (Xs j).env=pure false:=by intro _; rfl)
  (hd:(x==("__debug__":Str))=false:=by decide) (hcd:(x==("__classdict__":Str))=false:=by decide) (hl:(L.all fun i=>L'.contains i)=true:=by rfl):JS Xs B (.Assign [.Subscript (.Name x p1) b p2] e pos) (mPut i L' mb md):=
 let ⟨_,p,f⟩:=hb.ex; let ⟨_,q,g⟩:=he.ex; ⟨⟨_,fun j=>ps_dput (hu_of (jx.r j)) (pe_var (hN j) (hv j) hd hcd) (p j) (q j) (hs j),ws_put L' f g hl⟩⟩
theorem js_fld (jx:JX Xs P w K mg base k B) (i:Nat) {x f:Str} {cs:List Nat} {p1 p2:Pos} {L':List Nat} (hc:∀ c∈cs,Cls B.K (B.cl c)∧NoAttr B.K (B.cl c) f) (he:JD Xs B e L md) (hN:∀ j,(Xs j).N[i]? = some x:=by intro _; rfl) (hv:∀ j,Vis (Xs j).env.scope x:=by intro _; first | exact Or.inl rfl | exact Or.inr (Or.inl rfl) | exact Or.inr (Or.inr rfl)) (hs:∀ j,swapsWith e (some (.Attribute (.Name x p1) f p2)) pos.line (Xs j).env=pure false:=by intro _; rfl)
  (hd:(x==("__debug__":Str))=false:=by decide) (hcd:(x==("__classdict__":Str))=false:=by decide) (hl:(L.all fun i=>L'.contains i)=true:=by rfl):JS Xs B (.Assign [.Attribute (.Name x p1) f p2] e pos) (mFldS i cs f L' md):=
 let ⟨_,q,g⟩:=he.ex; ⟨⟨_,fun j=>ps_fldK (jx.k' j) (pe_var (hN j) (hv j) hd hcd) (q j) (hs j),ws_fld L' jx.bk hc g hl⟩⟩
theorem js_if (hc:JT Xs B c mt) (ha:JB Xs B sts mf) (hb:JB Xs B ss mh):JS Xs B (.If c sts ss pos) (mIf mt mf mh):=let ⟨_,p,f⟩:=hc.ex; let ⟨_,p',f'⟩:=ha.ex; let ⟨_,q,g⟩:=hb.ex; ⟨⟨_,fun i=>ps_if (p i) (p' i) (q i),fs_if f f' g⟩⟩
theorem js_for (jx:JX Xs P w K mg base k B) {tg iter:Expr} {mi:FSt→Option (List D)} {g1:D→FSt→Option FSt} (hi:JI Xs B tg iter mi) (hg:JG Xs B tg g1) (hb:JB Xs B sts mf) (hs:∀ i x,foldedSetIterable iter (Xs i).env x=pure x:=by intro _ _; rfl):JS Xs B (.For tg iter sts [] pos) (mFor mi g1 mf):=
 let ⟨_,p,f⟩:=hi.ex; let ⟨_,p',f'⟩:=hg.ex; let ⟨_,q,g⟩:=hb.ex; ⟨⟨_,fun i=>ps_for (jx.x i) (jx.c i) (p i) (p' i) (q i) (hs i),fs_for f f' g⟩⟩
theorem js_forV (jx:JX Xs P w K mg base k B) (j:Nat) {x:Str} {p1:Pos} {tg:Expr} {g1:D→FSt→Option FSt} (hg:JG Xs B tg g1) (hb:JB Xs B sts mf) (hN:∀ i,(Xs i).N[j]? = some x:=by intro _; rfl) (hv:∀ j,Vis (Xs j).env.scope x:=by intro _; first | exact Or.inl rfl | exact Or.inr (Or.inl rfl) | exact Or.inr (Or.inr rfl)) (hs:∀ i z,foldedSetIterable (.Name x p1) (Xs i).env z=pure z:=by intro _ _; rfl)
  (hd:(x==("__debug__":Str))=false:=by decide) (hcd:(x==("__classdict__":Str))=false:=by decide):JS Xs B (.For tg (.Name x p1) sts [] pos) (mForV j g1 mf):=
 let ⟨_,p',f'⟩:=hg.ex; let ⟨_,q,g⟩:=hb.ex; ⟨⟨_,fun i=>ps_for (jx.x i) (jx.c i) (pi_seqK (jx.k' i) (pe_var (hN i) (hv i) hd hcd)) (p' i) (q i) (hs i),fs_forV jx.bk f' g⟩⟩
theorem js_while (jx:JX Xs P w K mg base k B) (hc:JT Xs B c mt) (hb:JB Xs B sts mf):JS Xs B (.While c sts [] pos) (mWhile mt mf):=let ⟨_,p,f⟩:=hc.ex; let ⟨_,q,g⟩:=hb.ex; ⟨⟨_,fun i=>ps_while (jx.x i) (p i) (q i),fs_while f g⟩⟩
theorem js_ret (h:JE Xs B e L me):JS Xs B (.Return (some e) pos) (mRet me):=let ⟨_,p,f⟩:=h.ex; ⟨⟨_,fun i=>ps_ret (p i),fs_ret f⟩⟩
theorem js_retV (j:Nat) {x:Str} {p1:Pos} (hN:∀ i,(Xs i).N[j]? = some x:=by intro _; rfl) (hv:∀ j,Vis (Xs j).env.scope x:=by intro _; first | exact Or.inl rfl | exact Or.inr (Or.inl rfl) | exact Or.inr (Or.inr rfl)) (hd:(x==("__debug__":Str))=false:=by decide) (hcd:(x==("__classdict__":Str))=false:=by decide):JS Xs B (.Return (some (.Name x p1)) pos) (mRetV j):=
 ⟨⟨_,fun i=>ps_ret (pe_var (hN i) (hv i) hd hcd),fs_retV j⟩⟩
theorem js_do (h:JE Xs B e L me) (hs:∀ i,swapsWith e none pos.line (Xs i).env=pure false:=by intro _; rfl):JS Xs B (.Expr e pos) (mDo me):=let ⟨_,p,f⟩:=h.ex; ⟨⟨_,fun i=>ps_expr (p i) (hs i),fs_do f⟩⟩
theorem js_never:JS Xs B st mBad:=⟨⟨_,fun _=>ps_never,fs_never⟩⟩
theorem jb_nil:JB Xs B [] mPass:=⟨⟨_,fun _=>pss_nil,fs_next⟩⟩
theorem jb_one (h:JS Xs B st mf):JB Xs B [st] mf:=let ⟨_,p,f⟩:=h.ex; ⟨⟨_,fun i=>pss_one (p i),f⟩⟩
theorem jb_cons (h:JS Xs B st mf) (h':JB Xs B sts mh):JB Xs B (st :: sts) (mSeq mf mh):=let ⟨_,p,f⟩:=h.ex; let ⟨_,q,g⟩:=h'.ex; ⟨⟨_,fun i=>pss_cons (p i) (q i),fs_seq f g⟩⟩
theorem js_app (jx:JX Xs P w K mg base k B) (i:Nat) {x:Str} {p1 apos cpos:Pos} {L':List Nat} (he:JD Xs B e L md) (hs1:∀ i,starEach [e] (Xs i).env=[(false,eval e (Xs i).env)]) (hN:∀ j,(Xs j).N[i]? = some x:=by intro _; rfl) (hv:∀ j,Vis (Xs j).env.scope x:=by intro _; first | exact Or.inl rfl | exact Or.inr (Or.inl rfl) | exact Or.inr (Or.inr rfl))
  (hbase:∀ j,attributeBase (.Name x p1) "append" (Xs j).env (eval (.Name x p1) (Xs j).env)=eval (.Name x p1) (Xs j).env:=by intro _; rfl)
  (hfew:∀ i,((backTo cpos (starEach [e] (Xs i).env)).all (fun x=>!x.1)&&(backToKw cpos (keywordEach [] (Xs i).env)).all (fun x=>x.1.isSome)&&decide ([e].length+([]:List Keyword).length+(if ([]:List Keyword).isEmpty then 0 else 1) < 30))=true:=by intro _; rfl)
  (hline:(apos.endLine==cpos.line)=true:=by rfl) (hs:∀ j,swapsWith (.Call (.Attribute (.Name x p1) "append" apos) [e] [] cpos) none pos.line (Xs j).env=pure false:=by intro _; rfl)
  (hd:(x==("__debug__":Str))=false:=by decide) (hcd:(x==("__classdict__":Str))=false:=by decide) (hl:(L.all fun i=>L'.contains i)=true:=by rfl):JS Xs B (.Expr (.Call (.Attribute (.Name x p1) "append" apos) [e] [] cpos) pos) (mApp i L' md):=
 let ⟨_,p,f⟩:=he.ex; ⟨⟨_,fun j=>ps_expr (pe_bmK (jx.k' j) PySem.F.plainAttrs_list PySem.F.slot_list_append PySem.F.type_list_append mt_append (pe_var (hN j) (hv j) hd hcd) (pa_cons (p j) pa_nil (hs1 j)) (hbase j) (hfew j) hline (hs1 j) rfl) (hs j),ws_app L' jx.bk f hl⟩⟩
end
structure JIx (k:Nat) (qual:Str) (scope:Scope) (f:Addr) where
 cdv:Value
 A:Around
 outer:List Env
 s:Shared
 H:Hp
 E:XK
 hr:Room k (A.deeper (envOfC qual scope s.heap.objs.size f cdv))
abbrev JXs (P:Program) (w:World) (K:W.Frag) (mg:Str→Option Value) (base:Heap) (N:List Str) (k:Nat) (qual:Str) (scope:Scope) (f:Addr):JIx k qual scope f→Cx:=
 fun i=>(cxOf CX0 P w K mg base N qual scope f i.cdv i.A i.outer i.s i.H i.E).nox
section
variable {P:Program} {w:World} {K:W.Frag} {mg:Str→Option Value} {base:Heap} {x qual:Str} {st:Stmt} {f:Addr} {fd:FuncData} {N ps:List Str} {k:Nat} {B:Bk} {m:FSt→Fl} {scope:Scope}
theorem jx_def (hK:B.K=K):JX (JXs P w K mg base N k qual scope f) P w K mg base k B:=⟨fun _=>rfl,fun _=>rfl,fun _=>rfl,fun _=>rfl,fun _=>rfl,fun i=>i.hr,fun _=>rfl,hK,fun _=>PassesOwn.never⟩
theorem Fun.okJ (F:Fun K x qual st f fd) (S:FnScope N ps (defScope st)) (hK:B.K=K) (h:JX (JXs P w K mg base N k qual (defScope st) f) P w K mg base k B→JB (JXs P w K mg base N k qual (defScope st) f) B (defBody st) m):FnOk P w K mg base CX0 (k+1) f fd ps (SpF B ps.length (runF m ps.length N.length)):=
 F.okF S fun cdv A outer s H E hr=>let ⟨t,p,q⟩:=(h (jx_def hK)).ex; ⟨t,p ⟨cdv,A,outer,s,H,E,hr⟩,q⟩
theorem Fun.okIJ (F:Fun K x qual st f fd) (S:FnScope N ps (defScope st)) (hK:B.K=K) (h:JX (JXs P w K mg base N k qual (defScope st) f) P w K mg base k B→JB (JXs P w K mg base N k qual (defScope st) f) B (defBody st) m):FnOk P w K mg base CX0 (k+1) f fd ps (SpI B ps.length (runI m ps.length N.length)):=
 F.okI S fun cdv A outer s H E hr=>let ⟨t,p,q⟩:=(h (jx_def hK)).ex; ⟨t,p ⟨cdv,A,outer,s,H,E,hr⟩,q⟩
end
abbrev FnT:=List D→Option SV
abbrev BdT:=FSt→Fl
abbrev InT:=Nat→List D→Option (List (Str×D))
section
variable {ι:Type} {Xs:ι→Cx} {es:List Expr}
theorem aN {x pos} (i:ι):starEach (.Name x pos :: es) (Xs i).env=(false,eval (.Name x pos) (Xs i).env) :: starEach es (Xs i).env:=st_Name
theorem aC {c k pos} (i:ι):starEach (.Constant c k pos :: es) (Xs i).env=(false,eval (.Constant c k pos) (Xs i).env) :: starEach es (Xs i).env:=st_Constant
theorem aT {a b pos} (i:ι):starEach (.Tuple a b pos :: es) (Xs i).env=(false,eval (.Tuple a b pos) (Xs i).env) :: starEach es (Xs i).env:=st_Tuple
theorem aK {a pos} (i:ι):starEach (.List a pos :: es) (Xs i).env=(false,eval (.List a pos) (Xs i).env) :: starEach es (Xs i).env:=st_List
theorem aB {a o b pos} (i:ι):starEach (.BinOp a o b pos :: es) (Xs i).env=(false,eval (.BinOp a o b pos) (Xs i).env) :: starEach es (Xs i).env:=st_BinOp
theorem aU {o b pos} (i:ι):starEach (.UnaryOp o b pos :: es) (Xs i).env=(false,eval (.UnaryOp o b pos) (Xs i).env) :: starEach es (Xs i).env:=st_UnaryOp
theorem aO {o b pos} (i:ι):starEach (.BoolOp o b pos :: es) (Xs i).env=(false,eval (.BoolOp o b pos) (Xs i).env) :: starEach es (Xs i).env:=st_BoolOp
theorem aL {a b c pos} (i:ι):starEach (.Call a b c pos :: es) (Xs i).env=(false,eval (.Call a b c pos) (Xs i).env) :: starEach es (Xs i).env:=st_Call
theorem aS {a b pos} (i:ι):starEach (.Subscript a b pos :: es) (Xs i).env=(false,eval (.Subscript a b pos) (Xs i).env) :: starEach es (Xs i).env:=st_Subscript
theorem aA {a b pos} (i:ι):starEach (.Attribute a b pos :: es) (Xs i).env=(false,eval (.Attribute a b pos) (Xs i).env) :: starEach es (Xs i).env:=st_Attribute
theorem aM {a b c pos} (i:ι):starEach (.ListComp a b c pos :: es) (Xs i).env=(false,eval (.ListComp a b c pos) (Xs i).env) :: starEach es (Xs i).env:=st_ListComp
end
theorem scm {N ps:List Str} {s:Scope} (a:s.kind=.function:=by rfl) (b:s.isCoroutine=false:=by rfl) (c:s.isGenerator=false:=by rfl) (d:N.Nodup:=by decide +kernel) (e:N.take ps.length=ps:=by rfl) (f:∀ x∈ps,s.names.lookup x=some .local∨s.names.lookup x=some .cell:=by decide +kernel) (g:∀ y∈s.names,y.2≠.free:=by decide +kernel):FnScope N ps s:=⟨a,b,c,d,e,f,g⟩
section
variable {K:W.Frag} {x qual:Str} {st:Stmt} {f:Addr} {fd:FuncData}
theorem Fun.b1 {p0:Str} (F:Fun K x qual st f fd) (h:∀ (kV doc pm:Value) (an:Option Addr) (cdv ct u0:Value),bindArgs (W.fnOf x qual (defArgs st) (defBody st) (defScope st) .none kV doc pm an cdv ct) ⟨[u0],[]⟩=pure [(p0,u0)]:=by intros; rfl):Binds K fd [p0] []:=F.binds (ps:=[p0]) fun kV doc pm an cdv ct us hl=>match us,hl with | [u0],_=>h kV doc pm an cdv ct u0
theorem Fun.b2 {p0 p1:Str} (F:Fun K x qual st f fd) (h:∀ (kV doc pm:Value) (an:Option Addr) (cdv ct u0 u1:Value),bindArgs (W.fnOf x qual (defArgs st) (defBody st) (defScope st) .none kV doc pm an cdv ct) ⟨[u0,u1],[]⟩=pure [(p0,u0),(p1,u1)]:=by intros; rfl):Binds K fd [p0,p1] []:=F.binds (ps:=[p0,p1]) fun kV doc pm an cdv ct us hl=>match us,hl with | [u0,u1],_=>h kV doc pm an cdv ct u0 u1
theorem Fun.b3 {p0 p1 p2:Str} (F:Fun K x qual st f fd) (h:∀ (kV doc pm:Value) (an:Option Addr) (cdv ct u0 u1 u2:Value),bindArgs (W.fnOf x qual (defArgs st) (defBody st) (defScope st) .none kV doc pm an cdv ct) ⟨[u0,u1,u2],[]⟩=pure [(p0,u0),(p1,u1),(p2,u2)]:=by intros; rfl):Binds K fd [p0,p1,p2] []:=F.binds (ps:=[p0,p1,p2]) fun kV doc pm an cdv ct us hl=>match us,hl with | [u0,u1,u2],_=>h kV doc pm an cdv ct u0 u1 u2
theorem Fun.b4 {p0 p1 p2 p3:Str} (F:Fun K x qual st f fd) (h:∀ (kV doc pm:Value) (an:Option Addr) (cdv ct u0 u1 u2 u3:Value),bindArgs (W.fnOf x qual (defArgs st) (defBody st) (defScope st) .none kV doc pm an cdv ct) ⟨[u0,u1,u2,u3],[]⟩=pure [(p0,u0),(p1,u1),(p2,u2),(p3,u3)]:=by intros; rfl):Binds K fd [p0,p1,p2,p3] []:=F.binds (ps:=[p0,p1,p2,p3]) fun kV doc pm an cdv ct us hl=>match us,hl with | [u0,u1,u2,u3],_=>h kV doc pm an cdv ct u0 u1 u2 u3
theorem Fun.b5 {p0 p1 p2 p3 p4:Str} (F:Fun K x qual st f fd) (h:∀ (kV doc pm:Value) (an:Option Addr) (cdv ct u0 u1 u2 u3 u4:Value),bindArgs (W.fnOf x qual (defArgs st) (defBody st) (defScope st) .none kV doc pm an cdv ct) ⟨[u0,u1,u2,u3,u4],[]⟩=pure [(p0,u0),(p1,u1),(p2,u2),(p3,u3),(p4,u4)]:=by intros; rfl):Binds K fd [p0,p1,p2,p3,p4] []:=F.binds (ps:=[p0,p1,p2,p3,p4]) fun kV doc pm an cdv ct us hl=>match us,hl with | [u0,u1,u2,u3,u4],_=>h kV doc pm an cdv ct u0 u1 u2 u3 u4
theorem Fun.b6 {p0 p1 p2 p3 p4 p5:Str} (F:Fun K x qual st f fd) (h:∀ (kV doc pm:Value) (an:Option Addr) (cdv ct u0 u1 u2 u3 u4 u5:Value),bindArgs (W.fnOf x qual (defArgs st) (defBody st) (defScope st) .none kV doc pm an cdv ct) ⟨[u0,u1,u2,u3,u4,u5],[]⟩=pure [(p0,u0),(p1,u1),(p2,u2),(p3,u3),(p4,u4),(p5,u5)]:=by intros; rfl):Binds K fd [p0,p1,p2,p3,p4,p5] []:=F.binds (ps:=[p0,p1,p2,p3,p4,p5]) fun kV doc pm an cdv ct us hl=>match us,hl with | [u0,u1,u2,u3,u4,u5],_=>h kV doc pm an cdv ct u0 u1 u2 u3 u4 u5
theorem Fun.b7 {p0 p1 p2 p3 p4 p5 p6:Str} (F:Fun K x qual st f fd) (h:∀ (kV doc pm:Value) (an:Option Addr) (cdv ct u0 u1 u2 u3 u4 u5 u6:Value),bindArgs (W.fnOf x qual (defArgs st) (defBody st) (defScope st) .none kV doc pm an cdv ct) ⟨[u0,u1,u2,u3,u4,u5,u6],[]⟩=pure [(p0,u0),(p1,u1),(p2,u2),(p3,u3),(p4,u4),(p5,u5),(p6,u6)]:=by intros; rfl):Binds K fd [p0,p1,p2,p3,p4,p5,p6] []:=F.binds (ps:=[p0,p1,p2,p3,p4,p5,p6]) fun kV doc pm an cdv ct us hl=>match us,hl with | [u0,u1,u2,u3,u4,u5,u6],_=>h kV doc pm an cdv ct u0 u1 u2 u3 u4 u5 u6
theorem Fun.b8 {p0 p1 p2 p3 p4 p5 p6 p7:Str} (F:Fun K x qual st f fd) (h:∀ (kV doc pm:Value) (an:Option Addr) (cdv ct u0 u1 u2 u3 u4 u5 u6 u7:Value),bindArgs (W.fnOf x qual (defArgs st) (defBody st) (defScope st) .none kV doc pm an cdv ct) ⟨[u0,u1,u2,u3,u4,u5,u6,u7],[]⟩=pure [(p0,u0),(p1,u1),(p2,u2),(p3,u3),(p4,u4),(p5,u5),(p6,u6),(p7,u7)]:=by intros; rfl):Binds K fd [p0,p1,p2,p3,p4,p5,p6,p7] []:=F.binds (ps:=[p0,p1,p2,p3,p4,p5,p6,p7]) fun kV doc pm an cdv ct us hl=>match us,hl with | [u0,u1,u2,u3,u4,u5,u6,u7],_=>h kV doc pm an cdv ct u0 u1 u2 u3 u4 u5 u6 u7
end
end L2
namespace L2
open PySem PySem.Spec PyProof.Rows
structure AlO (os:Nat→List Addr) (p:Nat) (H:Hp) (F:Addr→Prop) (H':Hp) (F':Addr→Prop):Prop where
 same:∀ b o,b∉os p→H b=some o→H' b=some o
 up:∀ b,F b→F' b
 new:∀ b,F' b→F b∨(H b=none∧H' b≠none)∨isT H b
 li:∀ b,b∈os p→∃ xs,H' b=some (.lst xs)
def isPu (S:FSt) (p:Nat):Prop:=∃ ns,S[p]? = some (some (SV.pu ns))
@[simp] def puOf (S:FSt) (p:Nat):Option (List Int):=match S[p]? with
 | some (some (.pu ns))=>some ns
 | _=>none
section
variable {B:Bk} {p:Nat} {H H1 H2 H':Hp} {F F1 F2 F':Addr→Prop} {σ:St} {S:FSt} {os:Nat→List Addr} {L La Lb:List Nat} {ns:List Int}
theorem AlO.back (a:AlO os p H F H1 F1) {b:Addr} (h:H1 b=none):H b=none:=by
 cases e:H b with
 | none=>rfl
 | some o=>
  by_cases q:b∈os p
  ·obtain ⟨xs,h'⟩:=a.li b q; rw [h'] at h; cases h
  ·rw [a.same b o q e] at h; cases h
theorem AlO.liv (a:AlO os p H F H1 F1) {b:Addr} (h:H b≠none):H1 b≠none:=fun e=>h (a.back e)
theorem AlO.trans (a:AlO os p H F H1 F1) (c:AlO os p H1 F1 H2 F2):AlO os p H F H2 F2:=by
 refine ⟨fun b o n h=>c.same b o n (a.same b o n h),fun b h=>c.up b (a.up b h),fun b h=>?_,c.li⟩
 rcases c.new b h with h | ⟨h,h'⟩ | ⟨ys,h⟩
 ·rcases a.new b h with h | ⟨h,h'⟩ | h
  ·exact .inl h
  ·exact .inr (.inl ⟨h,c.liv h'⟩)
  ·exact .inr (.inr h)
 ·exact .inr (.inl ⟨a.back h,h'⟩)
 ·cases e:H b with
  | none=>exact .inr (.inl ⟨rfl,c.liv (by rw [h]; simp)⟩)
  | some o=>
   by_cases q:b∈os p
   ·obtain ⟨xs,h'⟩:=a.li b q; rw [h'] at h; cases h
   ·have:=a.same b o q e; rw [h] at this; cases this; exact .inr (.inr ⟨ys,e⟩)
theorem Rep.pu (r:Rep B H F σ S os) (hp:S[p]? = some (some (SV.pu ns))):∃ a,σ[p]? = some (some (.ref a))∧os p=[a]∧¬ F a∧H a=some (.lst (ns.map V.int)):=by
 obtain ⟨v,hv,a,rfl,eo,nf,hh⟩:=r.at' p _ hp
 exact ⟨a,hv,eo,nf,hh⟩
theorem Al.o (a:Al H F H' F') (r:Rep B H F σ S os) (hp:isPu S p):AlO os p H F H' F':=by
 obtain ⟨ns,hp⟩:=hp
 obtain ⟨c,_,eo,_,hh⟩:=r.pu hp
 refine ⟨fun b o _ h=>a.same b o h,a.up,a.new,fun b hb=>?_⟩
 rw [eo] at hb; cases List.mem_singleton.mp hb
 exact ⟨_,a.same _ _ hh⟩
theorem isPu.lt (h:isPu S p):p < S.length:=by obtain ⟨_,h⟩:=h; exact (List.getElem?_eq_some_iff.mp h).1
theorem isPu.set (h:isPu S p) (ns:List Int):(S.set p (some (.pu ns)))[p]? = some (some (.pu ns)):=by simp [List.getElem?_set,h.lt]
theorem isPu.set' (h:isPu S p) (ns:List Int):isPu (S.set p (some (.pu ns))) p:=⟨ns,h.set ns⟩
theorem set_self {x:Option SV} (h:S[p]? = some x):S.set p x=S:=by
 apply List.ext_getElem?
 intro j
 by_cases q:j=p
 ·subst q; rw [List.getElem?_set,if_pos rfl,h]; simp [(List.getElem?_eq_some_iff.mp h).1]
 ·rw [List.getElem?_set_ne (Ne.symm q)]
theorem set_set' {x y:Option SV}:(S.set p x).set p y=S.set p y:=by simp
theorem AlO.step (a:AlO os p H F H' F') (hp:isPu S p) (ns:List Int):FStep σ S H F os σ (S.set p (some (.pu ns))) H' F' os:=by
 refine ⟨fun b o h n=>a.same b o (n p) h,fun b h=>a.liv h,a.up,fun b h=>?_,fun i b h=>.inr ⟨i,h⟩,fun i xs h=>?_,fun i c fs h=>?_,fun i xs h=>?_⟩
 ·rcases a.new b h with q | q | q
  ·exact .inl q
  ·exact .inr (.inl q.1)
  ·exact .inr (.inr (.inr q))
 ·have hi:i≠p:=by rintro rfl; obtain ⟨_,hp⟩:=hp; rw [h] at hp; cases hp
  exact ⟨by rw [List.getElem?_set_ne (Ne.symm hi)]; exact h,rfl⟩
 ·have hi:i≠p:=by rintro rfl; obtain ⟨_,hp⟩:=hp; rw [h] at hp; cases hp
  exact ⟨⟨fs,by rw [List.getElem?_set_ne (Ne.symm hi)]; exact h⟩,rfl⟩
 ·by_cases hi:i=p
  ·subst hi; exact ⟨⟨ns,hp.set ns⟩,rfl⟩
  ·exact ⟨⟨xs,by rw [List.getElem?_set_ne (Ne.symm hi)]; exact h⟩,rfl⟩
theorem off_pu (r:Rep B H F σ S os) (hn:p∉L) {b:Addr} (h:orF F (osL os L) b):b∉os p:=fun e=>by
 rcases h with h | ⟨i,hi,h⟩
 ·exact (r.alive e).2 h
 ·exact hn (r.inj i p b h e▸hi)
theorem DA.laterP {v:V} {d:D} (h:DA B H (orF F (osL os La)) v d) (r:Rep B H F σ S os) (a:AlO os p H F H' F') (hn:p∉La) (hl:∀ i,i∈La→i∈Lb):DA B H' (orF F' (osL os Lb)) v d:=
 h.mono (fun b o f e=>a.same b o (off_pu r hn f) e) (orF_sub a.up hl)
theorem Rep.more (r:Rep B H F σ S os) (up:∀ b,F b→F' b) (al:∀ b,F' b→H b≠none) (no:∀ i b,b∈os i→¬ F' b):Rep B H F' σ S os:=
 ⟨fun i x h=>let ⟨v,h1,h2⟩:=r.at' i x h; ⟨v,h1,h2.sub up fun b hb=>no i b hb⟩,r.out,r.inj,al,r.len⟩
end
def FPE (B:Bk) (p:Nat) (t:TE) (L:List Nat) (m:FSt→Option (SV×List Int)):Prop:=
 ∀ (S:FSt) (σ:St) (H:Hp) (F:Addr→Prop) (os:Nat→List Addr) (Q:VK) (x:SV) (ns:List Int),Rep B H F σ S os→isPu S p→m S=some (x,ns)→
  (∀ v H' F' o,AlO os p H F H' F'→Rep B H' F' σ (S.set p (some (.pu ns))) os→VA B H' (orF F' (osL os L)) v x o→(∀ a,a∈o→H a=none)→Q v H')→t σ H Q
def FPA (B:Bk) (p:Nat) (t:TA) (L:List Nat) (m:FSt→Option (List D×List Int)):Prop:=
 ∀ (S:FSt) (σ:St) (H:Hp) (F:Addr→Prop) (os:Nat→List Addr) (Q:List V→Hp→Prop) (ds:List D) (ns:List Int),Rep B H F σ S os→isPu S p→m S=some (ds,ns)→
  (∀ vs H' F',AlO os p H F H' F'→Rep B H' F' σ (S.set p (some (.pu ns))) os→DAs B H' (orF F' (osL os L)) vs ds→Q vs H')→t σ H Q
def FPT (B:Bk) (p:Nat) (t:TT) (m:FSt→Option (Bool×List Int)):Prop:=
 ∀ (S:FSt) (σ:St) (H:Hp) (F:Addr→Prop) (os:Nat→List Addr) (Q:Bool→Hp→Prop) (c:Bool) (ns:List Int),Rep B H F σ S os→isPu S p→m S=some (c,ns)→
  (∀ H' F',AlO os p H F H' F'→Rep B H' F' σ (S.set p (some (.pu ns))) os→Q c H')→t σ H Q
def FPI (B:Bk) (p:Nat) (wi:TI) (m:FSt→Option (List D×List Int)):Prop:=
 ∀ (S:FSt) (σ:St) (H:Hp) (F:Addr→Prop) (os:Nat→List Addr) (R:It→Hp→Prop) (its:List D) (ns:List Int),Rep B H F σ S os→isPu S p→m S=some (its,ns)→
  (∀ J H' F',AlO os p H F H' F'→Rep B H' F' σ (S.set p (some (.pu ns))) os→Walks B J H' F' its→R J H')→wi σ H R
@[simp] def mPu {α:Type} (p:Nat) (m:FSt→Option α):FSt→Option (α×List Int):=fun S=>(puOf S p).bind fun ns=>(m S).map fun x=>(x,ns)
@[simp] def mP2 {α:Type} (p:Nat) (f:D→D→Option α) (ma mb:FSt→Option (SV×List Int)):FSt→Option (α×List Int):=fun S=>(ma S).bind fun x=>(mb (S.set p (some (.pu x.2)))).bind fun y=>(f x.1.fr y.1.fr).map fun z=>(z,y.2)
@[simp] def mPCons (p:Nat) (ma:FSt→Option (SV×List Int)) (mr:FSt→Option (List D×List Int)):FSt→Option (List D×List Int):=fun S=>(ma S).bind fun x=>(mr (S.set p (some (.pu x.2)))).bind fun y=>some (x.1.fr :: y.1,y.2)
@[simp] def mP1 {α β:Type} (f:α→Option β) (ma:FSt→Option (α×List Int)):FSt→Option (β×List Int):=fun S=>(ma S).bind fun x=>(f x.1).map fun z=>(z,x.2)
section
variable {B:Bk} {p:Nat} {ta tb:TE} {La Lb L:List Nat} {ma mb:FSt→Option (SV×List Int)} {tr:TA} {mr:FSt→Option (List D×List Int)} {me:FSt→Option SV} {md:FSt→Option D}
theorem pu_split {α:Type} {S:FSt} {m:FSt→Option α} {x:α} {ns:List Int} (hp:isPu S p) (e:mPu p m S=some (x,ns)):S.set p (some (.pu ns))=S∧m S=some x:=by
 obtain ⟨ks,hp⟩:=hp
 simp only [mPu,puOf,hp,Option.bind_some,Option.map_eq_some_iff] at e
 obtain ⟨y,e1,e2⟩:=e
 cases e2
 exact ⟨set_self hp,e1⟩
theorem fpe_pure (h:FE B ta L me):FPE B p ta L (mPu p me):=by
 intro S σ H F os Q x ns r hp e k
 obtain ⟨e1,e2⟩:=pu_split hp e
 exact h S σ H F os Q x r e2 fun v H' F' o a r' va fr=>k v H' F' o (a.o r hp) (by rw [e1]; exact r') va fr
theorem fpa_pure {mr:FSt→Option (List D)} (h:FA B tr L mr):FPA B p tr L (mPu p mr):=by
 intro S σ H F os Q x ns r hp e k
 obtain ⟨e1,e2⟩:=pu_split hp e
 exact h S σ H F os Q x r e2 fun v H' F' a r' va=>k v H' F' (a.o r hp) (by rw [e1]; exact r') va
theorem fpt_pure {t:TT} {mt:FSt→Option Bool} (h:FT B t mt):FPT B p t (mPu p mt):=by
 intro S σ H F os Q x ns r hp e k
 obtain ⟨e1,e2⟩:=pu_split hp e
 exact h S σ H F os Q x r e2 fun H' F' a r'=>k H' F' (a.o r hp) (by rw [e1]; exact r')
theorem FPE.d (h:FPE B p ta L ma) {S:FSt} {σ:St} {H:Hp} {F:Addr→Prop} {os:Nat→List Addr} {Q:VK} {x:SV} {ns:List Int} (r:Rep B H F σ S os) (hp:isPu S p) (e:ma S=some (x,ns))
  (k:∀ v H' F',AlO os p H F H' F'→Rep B H' F' σ (S.set p (some (.pu ns))) os→DA B H' (orF F' (osL os L)) v x.fr→Q v H'):ta σ H Q:=by
 refine h S σ H F os Q x ns r hp e fun v H' F' o a r' va fr=>?_
 refine k v H' (fun b=>F' b∨b∈o) ⟨a.same,fun b h=>.inl (a.up b h),fun b h=>?_,a.li⟩ (r'.more (fun b h=>.inl h) (fun b h=>?_) fun i b hb h=>?_) (va.frozen (fun b h=>?_) fun b h=>.inl (.inr h))
 ·rcases h with h | h
  ·exact a.new b h
  ·exact .inr (.inl ⟨fr b h,(va.alive h).1⟩)
 ·rcases h with h | h
  ·exact r'.fd b h
  ·exact (va.alive h).1
 ·rcases h with h | h
  ·exact (r'.alive hb).2 h
  ·exact (r.alive hb).1 (fr b h)
 ·rcases h with h | h
  ·exact .inl (.inl h)
  ·exact .inr h
theorem OpD.e {r:R2} {f:D→D→Option D} (h:OpD B r f):OpE B r (fun x y=>(f x y).map SV.sh):=by
 intro H G x y dx dy z Q hg hx hy e k
 rw [Option.map_eq_some_iff] at e
 obtain ⟨d,e1,rfl⟩:=e
 exact h H G x y dx dy d Q hx hy e1 fun v H' G' a da=>k v H' G' [] a ⟨rfl,da⟩ (by simp)
theorem fpe_op {r:R2} {f:D→D→Option SV} (ho:OpE B r f) (ha:FPE B p ta La ma) (hb:FPE B p tb Lb mb) (na:p∉La):FPE B p (tOp r ta tb) (La++Lb) (mP2 p f ma mb):=by
 intro S σ H F os Q z ns rp hp e k
 obtain ⟨x,ea,e⟩:=bind1 e
 obtain ⟨y,eb,e⟩:=bind1 e
 rw [Option.map_eq_some_iff] at e
 obtain ⟨z',ef,e⟩:=e
 cases e
 refine ha.d rp hp ea fun v H1 F1 a1 r1 d1=>hb.d r1 (hp.set' _) eb fun w H2 F2 a2 r2 d2=>?_
 rw [set_set'] at r2
 refine ho H2 (orF F2 (osL os (La++Lb))) v w _ _ z Q (r2.gd _) (d1.laterP r1 a2 na fun i h=>List.mem_append_left _ h) (d2.later Al.refl fun i h=>List.mem_append_right _ h) ef fun u H3 G3 o a3 va fr=>?_
 obtain ⟨F3,al,r3,va2⟩:=ve_split r2 a3 va fr
 exact k u H3 F3 o ((a1.trans a2).trans (al.o r2 (hp.set' _))) r3 va2 fun b e=>(a1.trans a2).back (fr b e)
theorem fpt_of (h:FPE B p ta L ma):FPT B p (tTest ta) (mP1 asB fun S=>(ma S).map fun x=>(x.1.fr,x.2)):=by
 intro S σ H F os Q c ns rp hp e k
 obtain ⟨y,ed,ef⟩:=bind1 e
 rw [Option.map_eq_some_iff] at ed
 obtain ⟨⟨x,ks⟩,ed,rfl⟩:=ed
 rw [Option.map_eq_some_iff] at ef
 obtain ⟨b,ef,e2⟩:=ef
 cases e2
 refine h.d rp hp ed fun v H' F' a r' d1=>?_
 dsimp only at ef
 cases q:x.fr with
 | bl b=>rw [q] at ef d1; cases ef; cases d1; exact ⟨_,rfl,k H' F' a r'⟩
 | _=>rw [q] at ef; cases ef
theorem fpa_cons (ha:FPE B p ta La ma) (hr:FPA B p tr Lb mr) (na:p∉La):FPA B p (tCons ta tr) (La++Lb) (mPCons p ma mr):=by
 intro S σ H F os Q ds ns rp hp e k
 obtain ⟨x,ea,e⟩:=bind1 e
 obtain ⟨y,eb,e⟩:=bind1 e
 cases e
 refine ha.d rp hp ea fun v H1 F1 a1 r1 d1=>hr _ σ H1 F1 os _ y.1 y.2 r1 (hp.set' _) eb fun vs H2 F2 a2 r2 d2=>?_
 rw [set_set'] at r2
 exact k (v :: vs) H2 F2 (a1.trans a2) r2 (.cons (d1.laterP r1 a2 na fun i h=>List.mem_append_left _ h) (d2.later Al.refl fun i h=>List.mem_append_right _ h))
theorem fpe_callR {r:List V→Hp→VK→Prop} {f:List D→Option SV} {tx:TE} (htx:∀ σ H Q,(tr σ H fun vs H1=>r vs H1 Q)→tx σ H Q) (ho:CallE B r f) (hr:FPA B p tr L mr):FPE B p tx L (mP1 f mr):=by
 intro S σ H F os Q z ns rp hp e k
 obtain ⟨y,ed,e⟩:=bind1 e
 rw [Option.map_eq_some_iff] at e
 obtain ⟨z',ef,e⟩:=e
 cases e
 refine htx σ H Q (hr S σ H F os _ y.1 y.2 rp hp ed fun vs H1 F1 a1 r1 d1=>ho H1 _ vs y.1 z Q (r1.gd _) d1 ef fun u H2 G2 o a2 va fr=>?_)
 obtain ⟨F2,al,r2,va2⟩:=ve_split r1 a2 va fr
 exact k u H2 F2 o (a1.trans (al.o r1 (hp.set' _))) r2 va2 fun b e=>a1.back (fr b e)
@[simp] def oLst:List D→Option SV:=fun ds=>if ds.length≤sizeLine then some (.li ds) else none
@[simp] def oTup:List D→Option SV:=fun ds=>if ds.length≤sizeLine then some (.sh (.tup ds)) else none
theorem c_lst:CallE B (fun vs H Q=>vs.length≤sizeLine∧∀ p,H p=none→Q (.ref p) (upd H p (.lst vs))) oLst:=by
 intro H G vs ds z Q hg hd hz k
 unfold oLst at hz
 split at hz
 case isFalse=>cases hz
 case isTrue hl=>
  cases hz
  refine ⟨by rw [hd.length]; exact hl,fun q hq=>?_⟩
  exact k _ _ G [q] (al_fresh hq) ⟨q,vs,rfl,rfl,fun h=>hg q h hq,upd_same,hd.mono (fun b o _ e=>same_upd hq b o e) fun _ h=>h⟩ fun a e=>by rw [List.mem_singleton.mp e]; exact hq
theorem fpe_lst (hr:FPA B p tr L mr):FPE B p (tLst tr) L (mP1 oLst mr):=fpe_callR (fun _ _ _ h=>h) c_lst hr
@[simp] def mPBM (p:Nat) (f:D→List D→Option SV) (ma:FSt→Option (SV×List Int)) (mr:FSt→Option (List D×List Int)):FSt→Option (SV×List Int):=fun S=>(ma S).bind fun x=>(mr (S.set p (some (.pu x.2)))).bind fun y=>(f x.1.fr y.1).map fun z=>(z,y.2)
theorem fpe_bm {K:W.Frag} {T:String} {r:V→List V→Hp→VK→Prop} {f:D→List D→Option SV} (ht:MtT B K T f) (ho:MtE B K T r f) (ha:FPE B p ta La ma) (hr:FPA B p tr Lb mr) (na:p∉La):FPE B p (tBM K T r ta tr) (La++Lb) (mPBM p f ma mr):=by
 intro S σ H F os Q z ns rp hp e k
 obtain ⟨x,ea,e⟩:=bind1 e
 obtain ⟨y,eb,e⟩:=bind1 e
 rw [Option.map_eq_some_iff] at e
 obtain ⟨z',ef,e⟩:=e
 cases e
 refine ha.d rp hp ea fun v H1 F1 a1 r1 d1=>⟨ht H1 _ v _ y.1 z d1 ef,hr _ σ H1 F1 os _ y.1 y.2 r1 (hp.set' _) eb fun vs H2 F2 a2 r2 d2=>?_⟩
 rw [set_set'] at r2
 refine ho H2 (orF F2 (osL os (La++Lb))) v vs _ y.1 z Q (r2.gd _) (d1.laterP r1 a2 na fun i h=>List.mem_append_left _ h) (d2.later Al.refl fun i h=>List.mem_append_right _ h) ef fun u H3 G3 o a3 va fr=>?_
 obtain ⟨F3,al,r3,va2⟩:=ve_split r2 a3 va fr
 exact k u H3 F3 o ((a1.trans a2).trans (al.o r2 (hp.set' _))) r3 va2 fun b e=>(a1.trans a2).back (fr b e)
theorem fpi_rng1 (hr:FPA B p tr L mr):FPI B p (iRng1 tr) (mP1 (fun ds=>match ds with | [.int j]=>fRng [.int j] | _=>none) mr):=by
 intro S σ H F os R its ns rp hp e k
 obtain ⟨y,ed,e⟩:=bind1 e
 rw [Option.map_eq_some_iff] at e
 obtain ⟨z',ef,e⟩:=e
 cases e
 refine hr S σ H F os _ y.1 y.2 rp hp ed fun vs H' F' a r' da=>?_
 dsimp only at ef
 split at ef
 case h_2=>cases ef
 case h_1 j eq=>
  rw [eq] at da
  obtain ⟨v,rfl,d1⟩:=da.one
  cases d1
  unfold fRng at ef
  dsimp only at ef
  split at ef
  case isFalse=>cases ef
  case isTrue hj=>rw [cRng_iff] at hj; cases ef; exact ⟨j,rfl,hj.1,hj.2,k _ H' F' a r' (walks_rng 0 _)⟩
end
def SpP (B:Bk) (n:Nat) (f:List Int→List D→Option (SV×List Int)):Sp:=fun vs H Q _=>vs.length=n∧∃ (G:Addr→Prop) (a:Addr) (ns:List Int) (vs':List V) (ds:List D) (z:SV) (ns':List Int),vs=.ref a :: vs'∧(∀ b,G b→H b≠none)∧¬ G a∧
 H a=some (.lst (ns.map V.int))∧DAs B H G vs' ds∧f ns ds=some (z,ns')∧∀ v H' G' o,(∀ b u,H b=some u→b≠a→H' b=some u)→(∀ b,G b→G' b)→(∀ b,G' b→G b∨(H b=none∧H' b≠none)∨isT H b)→¬ G' a→
  H' a=some (.lst (ns'.map V.int))→VA B H' G' v z o→(∀ b,b∈o→H b=none)→Q v H'
def SpT (B:Bk) (n:Nat) (f:List Int→List D→Option SV):Sp:=fun vs H Q _=>vs.length=n∧∃ (G:Addr→Prop) (a:Addr) (ns:List Int) (vs':List V) (ds:List D) (z:SV),vs=.ref a :: vs'∧(∀ b,G b→H b≠none)∧¬ G a∧
 H a=some (.lst (ns.map V.int))∧DAs B H G vs' ds∧f ns ds=some z∧∀ v H' G' o,(∀ b u,H b=some u→b≠a→H' b=some u)→(∀ b,G b→G' b)→(∀ b,G' b→G b∨(H b=none∧H' b≠none)∨isT H b∨b=a)→(∀ b,G' b→H' b≠none)→
  VA B H' G' v z o→(∀ b,b∈o→H b=none∨b=a)→Q v H'
@[simp] def mCallP (f:List Int→List D→Option (SV×List Int)) (mr:FSt→Option (List D×List Int)):FSt→Option (SV×List Int):=fun S=>(mr S).bind fun y=>f y.2 y.1
@[simp] def asInts:List D→Option (List Int)
 | []=>some []
 | .int i :: r=>(asInts r).map fun is=>i :: is
 | _=>none
@[simp] def mCallT (f:List Int→List D→Option SV) (me:FSt→Option SV):FSt→Option SV:=fun S=>(me S).bind fun x=>match x with
 | .li ds=>(asInts ds).bind fun ns=>f ns []
 | _=>none
section
variable {B:Bk} {p:Nat} {ta tb:TE} {La Lb L:List Nat} {tr:TA} {mr:FSt→Option (List D×List Int)} {me:FSt→Option SV}
theorem pu_back {H1 H':Hp} {F1 G':Addr→Prop} {σ:St} {S:FSt} {os:Nat→List Addr} {a:Addr} {ks ns:List Int} {v:V} {z:SV} {o:List Addr} (r1:Rep B H1 F1 σ S os) (hp1:S[p]? = some (some (.pu ks))) (eo:os p=[a]) (hn:p∉L) (kp:∀ b u,H1 b=some u→b≠a→H' b=some u) (up:∀ b,orF F1 (osL os L) b→G' b)
  (new:∀ b,G' b→orF F1 (osL os L) b∨(H1 b=none∧H' b≠none)∨isT H1 b) (na':¬ G' a) (hh':H' a=some (.lst (ns.map V.int))) (va:VA B H' G' v z o) (fr:∀ b,b∈o→H1 b=none) :
  ∃ F2,AlO os p H1 F1 H' F2∧Rep B H' F2 σ (S.set p (some (.pu ns))) os∧VA B H' (orF F2 (osL os L)) v z o:=by
 obtain ⟨a',hv,eo',nf,hh⟩:=r1.pu hp1
 rw [eo] at eo'
 cases eo'
 have r2:Rep B (upd H1 a (.lst (ns.map V.int))) F1 σ (S.set p (some (.pu ns))) os:=r1.write (by rw [eo]; simp) hv ⟨a,rfl,eo,nf,upd_same⟩
 have al:Al (upd H1 a (.lst (ns.map V.int))) (orF F1 (osL os L)) H' G':=by
  refine ⟨fun b u h=>?_,up,fun b h=>?_⟩
  ·by_cases q:b=a
   ·subst q; rw [upd_same] at h; cases h; exact hh'
   ·rw [upd_ne q] at h; exact kp b u h q
  ·have q:b≠a:=by rintro rfl; exact na' h
   rcases new b h with h | h | ⟨ys,h⟩
   ·exact .inl h
   ·exact .inr (.inl (by rw [upd_ne q]; exact h))
   ·exact .inr (.inr ⟨ys,by rw [upd_ne q]; exact h⟩)
 have fr2:∀ b,b∈o→upd H1 a (.lst (ns.map V.int)) b=none:=fun b hb=>by
  have q:b≠a:=by rintro rfl; have:=fr b hb; rw [hh] at this; cases this
  rw [upd_ne q]; exact fr b hb
 obtain ⟨F2,al2,r3,va2⟩:=ve_split r2 al va fr2
 refine ⟨F2,⟨fun b u n h=>al2.same b u (by rw [upd_ne]; exact h; rintro rfl; exact n (by rw [eo]; simp)),al2.up,fun b h=>?_,fun b hb=>?_⟩,r3,va2⟩
 ·by_cases q:b=a
  ·subst q
   exact absurd h (r3.alive (i:=p) (a:=b) (by rw [eo]; simp)).2
  ·rcases al2.new b h with h | h | ⟨ys,h⟩
   ·exact .inl h
   ·exact .inr (.inl (by rw [upd_ne q] at h; exact h))
   ·exact .inr (.inr ⟨ys,by rw [upd_ne q] at h; exact h⟩)
 ·rw [eo] at hb; cases List.mem_singleton.mp hb; exact ⟨_,hh'⟩
theorem fpe_callP {n:Nat} {f:List Int→List D→Option (SV×List Int)} {E:XK} (hf:∀ ns ds z,f ns ds=some z→ds.length+1=n) (hr:FPA B p tr L mr) (hn:p∉L):FPE B p (tCall (SpP B n f) [] E (tCons (tVar p) tr)) L (mCallP f mr):=by
 intro S σ H F os Q z ns rp hp e k
 obtain ⟨⟨ds,ks⟩,ed,ef⟩:=bind1 e
 dsimp only at ef
 obtain ⟨n0,hp0⟩:=hp
 obtain ⟨a,hv,eo,_,_⟩:=rp.pu hp0
 refine ⟨.ref a,hv,hr S σ H F os _ ds ks rp ⟨n0,hp0⟩ ed fun vs H1 F1 a1 r1 d1=>?_⟩
 have hp1:=isPu.set ⟨n0,hp0⟩ ks
 obtain ⟨a',hv',eo',nf,hh⟩:=r1.pu hp1
 rw [eo] at eo'
 cases eo'
 have na:¬ orF F1 (osL os L) a:=fun h=>off_pu r1 hn h (by rw [eo]; simp)
 refine ⟨by rw [List.append_nil,List.length_cons,d1.length]; exact hf _ _ _ ef,orF F1 (osL os L),a,ks,vs,ds,z,ns,by rw [List.append_nil],r1.gd L,na,hh,d1,ef,fun v H' G' o kp up new na' hh' va fr=>?_⟩
 obtain ⟨F2,a2,r3,va2⟩:=pu_back r1 hp1 eo hn kp up new na' hh' va fr
 rw [set_set'] at r3
 exact k v H' F2 o (a1.trans a2) r3 va2 fun b hb=>a1.back (fr b hb)
theorem asInts_v {H:Hp} {G:Addr→Prop}:∀ {vs:List V} {ds:List D} {ns:List Int},DAs B H G vs ds→asInts ds=some ns→vs=ns.map V.int
 | _,_,_,.nil,e=>by cases e; rfl
 | _,_,_,.cons h r,e=>by
  cases h with
  | int x=>
   simp only [asInts,Option.map_eq_some_iff] at e
   obtain ⟨zs,e1,rfl⟩:=e
   rw [asInts_v r e1]; rfl
  | _=>cases e
theorem fe_callT {n:Nat} {f:List Int→List D→Option SV} {E:XK} (hf:∀ ns ds z,f ns ds=some z→ds.length+1=n) (he:FE B ta L me):FE B (tCall (SpT B n f) [] E (tCons ta tNil)) L (mCallT f me):=by
 intro S σ H F os Q z rp e k
 obtain ⟨x,ed,ef⟩:=bind1 e
 split at ef
 case h_2=>cases ef
 case h_1 ds=>
  obtain ⟨ns,en,ef⟩:=bind1 ef
  refine he S σ H F os _ _ rp ed fun v H1 F1 o1 a1 r1 va fr=>?_
  obtain ⟨a,xs,rfl,rfl,nf,hh,das⟩:=va
  have:=asInts_v das en
  subst this
  have na:H a=none:=fr a (by simp)
  refine ⟨by simpa using hf _ _ _ ef,orF F1 (osL os L),a,ns,[],[],z,rfl,r1.gd L,nf,hh,.nil,ef,fun v H' G' o kp up new gd va2 fr2=>?_⟩
  have al:Al H (orF F (osL os L)) H' (fun b=>G' b):=by
   refine ⟨fun b u h=>kp b u (a1.same b u h) (ne_of_none h na),fun b h=>up b (orF_sub a1.up (fun _ h=>h) b h),fun b h=>?_⟩
   rcases new b h with h1 | h1 | ⟨ys,h1⟩ | h1
   ·rcases h1 with h1 | h1
    ·rcases a1.new b h1 with h2 | h2 | h2
     ·exact .inl (.inl h2)
     ·refine .inr (.inl ⟨h2.1,?_⟩)
      by_cases q:b=a
      ·subst q; exact absurd (.inl h1) nf
      ·cases e:H1 b with
       | none=>exact absurd e h2.2
       | some u=>rw [kp b u e q]; simp
     ·exact .inr (.inr h2)
    ·exact .inl (.inr h1)
   ·refine .inr (.inl ⟨?_,h1.2⟩)
    cases e:H b with
    | none=>rfl
    | some u=>rw [a1.same b u e] at h1; cases h1.1
   ·cases e:H b with
    | none=>
     refine .inr (.inl ⟨rfl,?_⟩)
     have q:b≠a:=by rintro rfl; rw [hh] at h1; cases h1
     rw [kp b _ h1 q]; simp
    | some u=>have:=a1.same b u e; rw [h1] at this; cases this; exact .inr (.inr ⟨ys,e⟩)
   ·exact .inr (.inl ⟨by rw [h1]; exact na,gd b h⟩)
  have fr3:∀ b,b∈o→H b=none:=fun b hb=>by
   rcases fr2 b hb with h | h
   ·cases e:H b with
    | none=>rfl
    | some u=>rw [a1.same b u e] at h; cases h
   ·rw [h]; exact na
  obtain ⟨F3,al3,r3,va3⟩:=ve_split rp al va2 fr3
  exact k v H' F3 o al3 r3 va3 fr3
end
end L2
namespace L2
open PySem PySem.Spec PyProof.Rows
def compMP (pc:Nat) (mg:D→FSt→Option FSt) (mt:FSt→Option (Bool×List Int)) (me:FSt→Option (SV×List Int)):List D→FSt→Option (List D×List Int)
 | [],S=>(puOf S pc).map fun ns=>([],ns)
 | d :: r,S=>(mg d S).bind fun S1=>(mt S1).bind fun c=>if c.1=true then (me (S1.set pc (some (.pu c.2)))).bind fun x=>(compMP pc mg mt me r (S1.set pc (some (.pu x.2)))).map fun y=>(x.1.fr :: y.1,y.2) else compMP pc mg mt me r (S1.set pc (some (.pu c.2)))
@[simp] def compSP (own:Nat) (fi:List Nat) (p:Nat) (S:FSt):FSt:=List.replicate own none++fi.map fun j=>if j=p then S[j]?.join else (S[j]?.join).map fun x=>SV.sh x.fr
@[simp] def mCompP (own:Nat) (fi:List Nat) (p pc:Nat) (mi:FSt→Option (List D×List Int)) (mg:D→FSt→Option FSt) (mt:FSt→Option (Bool×List Int)) (me:FSt→Option (SV×List Int)):FSt→Option (SV×List Int):=fun S=>
 (mi S).bind fun its=>if its.1.length≤sizeLine then (compMP pc mg mt me its.1 (compSP own fi p (S.set p (some (.pu its.2))))).map fun y=>(SV.li y.1,y.2) else none
section
variable {B:Bk} {p pc:Nat} {wi:TI} {mi:FSt→Option (List D×List Int)} {g:TG} {mg:D→FSt→Option FSt} {tt:TT} {mt:FSt→Option (Bool×List Int)} {te:TE} {me:FSt→Option (SV×List Int)} {own:Nat} {fi L:List Nat}
abbrev osC (pc:Nat) (a:Addr):Nat→List Addr:=fun k=>if k=pc then [a] else []
theorem comp_startP {H:Hp} {F:Addr→Prop} {σ:St} {S:FSt} {os:Nat→List Addr} {ns:List Int} {a:Addr} (r:Rep B H F σ S os) (hp:S[p]? = some (some (.pu ns))) (eo:os p=[a]) (hf:fi[pc-own]? = some p) (ho:own≤pc) (hu:∀ k,fi[k]? = some p→k=pc-own) (Lf:List Nat) (hL:∀ j,j∈fi→j≠p→j∈Lf) (hn:p∉Lf) :
  Rep B H (orF F (osL os Lf)) (compSt own fi σ) (compSP own fi p S) (osC pc a):=by
 obtain ⟨a',hv,eo',nf,hh⟩:=r.pu hp
 rw [eo] at eo'
 cases eo'
 have na:¬ orF F (osL os Lf) a:=fun h=>off_pu r hn h (by rw [eo]; simp)
 have hpc:(compSP own fi p S)[pc]? = some (some (.pu ns)):=by
  unfold compSP
  rw [List.getElem?_append_right (by simpa using ho),List.length_replicate,List.getElem?_map,hf]
  simp [hp]
 refine ⟨fun i x h=>?_,fun i h=>?_,fun i j b e1 e2=>?_,r.gd Lf,by simp [compSt,compSP]⟩
 ·by_cases hi:i < own
  ·unfold compSP at h
   rw [List.getElem?_append_left (by simpa using hi),List.getElem?_replicate,if_pos hi] at h
   cases h
  ·unfold compSP at h
   rw [List.getElem?_append_right (by simpa using hi),List.length_replicate,List.getElem?_map] at h
   unfold compSt
   rw [List.getElem?_append_right (by simpa using hi),List.length_replicate,List.getElem?_map]
   cases q:fi[i-own]? with
   | none=>rw [q] at h; cases h
   | some j=>
    rw [q] at h
    simp only [Option.map_some,Option.some.injEq] at h
    by_cases hj:j=p
    ·subst hj
     have e0:i=pc:=by have:=hu _ q; omega
     subst e0
     rw [if_pos rfl,hp] at h
     cases h
     refine ⟨.ref a,by simp [hv],a,rfl,by simp [osC],na,hh⟩
    ·rw [if_neg hj] at h
     have ni:i≠pc:=by rintro rfl; rw [hf] at q; exact hj (Option.some.inj q).symm
     cases e:S[j]? with
     | none=>rw [e] at h; cases h
     | some z=>cases z with
      | none=>rw [e] at h; cases h
      | some y=>
       rw [e] at h; cases h
       obtain ⟨v,h1,h2⟩:=r.at' j y e
       refine ⟨v,by simp [h1],by simp [osC,ni],h2.frozen (fun b z=>.inl z) fun b z=>.inr ⟨j,hL j (List.mem_of_getElem? q) hj,z⟩⟩
 ·show (if i=pc then [a] else [])=[]
  rw [if_neg]
  rintro rfl
  exact h _ hpc
 ·have e1:b∈(if i=pc then [a] else []):=e1
  have e2:b∈(if j=pc then [a] else []):=e2
  split at e1
  ·split at e2
   ·omega
   ·simp at e2
  ·simp at e1
theorem osC_keep {H : Hp} {G : Addr → Prop} {σ σ2 : St} {S S1 : FSt} {os2 : Nat → List Addr} {a : Addr} (r : Rep B H G σ S (osC pc a)) (hp : isPu S pc) (r2 : Rep B H G σ2 S1 os2) (st : FStep σ S H G (osC pc a) σ2 S1 H G os2) : os2 = osC pc a ∧ isPu S1 pc := by
  obtain ⟨ns, hp⟩ := hp
  obtain ⟨⟨ks, k1⟩, k2⟩ := st.lpu pc ns hp
  obtain ⟨a1, v1, e1, _, _⟩ := r.pu hp
  obtain ⟨a2, v2, e2, _, _⟩ := r2.pu k1
  have e1' : [a] = [a1] := by have : osC pc a pc = [a] := by simp [osC]
                              rw [this] at e1; exact e1
  cases e1'
  rw [k2, v1] at v2
  cases v2
  refine ⟨funext fun k => ?_, ks, k1⟩
  by_cases q : k = pc
  · subst q; rw [e2]; simp [osC]
  · show os2 k = (if k = pc then [a] else [])
    rw [if_neg q]
    cases qq : os2 k with
    | nil => rfl
    | cons b _ =>
      have hb : b ∈ os2 k := by rw [qq]; simp
      rcases st.own k b hb with z | ⟨j, z⟩
      · exact absurd z (r2.alive hb).1
      · have z : b ∈ (if j = pc then [a] else []) := z
        split at z
        · cases List.mem_singleton.mp z
          exact absurd (r2.inj k pc _ hb (by rw [e2]; simp)) q
        · simp at z
theorem AlO.fresh {os:Nat→List Addr} {H:Hp} {F:Addr→Prop} {l:Addr} {u:HO} (h:H l=none) (al:∀ b,b∈os pc→∃ xs,H b=some (.lst xs)):AlO os pc H F (upd H l u) F:=
 ⟨fun b o _ e=>same_upd h b o e,fun _ q=>q,fun _ q=>.inl q,fun b hb=>let ⟨xs,e⟩:=al b hb; ⟨xs,same_upd h b _ e⟩⟩
theorem fpe_comp {Lf Le:List Nat} (hf:fi[pc-own]? = some p) (ho:own≤pc) (hu:∀ k,fi[k]? = some p→k=pc-own) (hL:∀ j,j∈fi→j≠p→j∈Lf) (hn:p∉Lf) (hi:FPI B p wi mi) (hg:FG B g mg) (ht:FPT B pc tt mt) (he:FPE B pc te Le me) (hne:pc∉Le):FPE B p (tComp wi g tt te own fi) Lf (mCompP own fi p pc mi mg mt me):=by
 intro S σ H F os Q x ns r hp e k
 obtain ⟨⟨its,n1⟩,ei,ef⟩:=bind1 e
 dsimp only at ef
 split at ef
 case isFalse=>cases ef
 case isTrue hz=>
 rw [Option.map_eq_some_iff] at ef
 obtain ⟨⟨ds,nF⟩,ec,ef⟩:=ef
 cases ef
 refine hi S σ H F os _ its n1 r hp ei fun J H1 F1 al r1 wk l hl=>?_
 have hp1:=hp.set n1
 obtain ⟨a,hv,eo,nf,hh⟩:=r1.pu hp1
 have rc:=comp_startP (pc:=pc) (own:=own) (fi:=fi) r1 hp1 eo hf ho hu Lf hL hn
 have hpc:(compSP own fi p (S.set p (some (.pu n1))))[pc]? = some (some (.pu n1)):=by
  unfold compSP
  rw [List.getElem?_append_right (by simpa using ho),List.length_replicate,List.getElem?_map,hf]
  simp [hp1]
 have la:l≠a:=by rintro rfl; rw [hh] at hl; cases hl
 have al0:AlO (osC pc a) pc H1 (orF F1 (osL os Lf)) (upd H1 l (.lst [])) (orF F1 (osL os Lf)):=AlO.fresh hl fun b hb=>by
  have hb:b∈(if pc=pc then [a] else []):=hb
  rw [if_pos rfl] at hb; cases List.mem_singleton.mp hb; exact ⟨_,hh⟩
 have rc0:=rc.mono (al_fresh (u:=.lst []) hl)
 have nl0:¬ orF F1 (osL os Lf) l:=fun z=>r1.gd Lf l z hl
 refine ⟨fun i m σ' H'=>i≤its.length∧m=its.length-i∧∃ S' G xs acc rest,Rep B H' G σ' S' (osC pc a)∧isPu S' pc∧AlO (osC pc a) pc H1 (orF F1 (osL os Lf)) H' G∧H' l=some (.lst xs)∧¬ G l∧DAs B H' G xs acc∧acc.length≤i∧
   compMP pc mg mt me (its.drop i) S'=some (rest,nF)∧acc++rest=ds,
  ⟨_,Nat.zero_le _,rfl,_,_,[],[],ds,rc0,⟨n1,hpc⟩,al0,upd_same,nl0,.nil,Nat.zero_le _,by simpa using ec,rfl⟩,?_⟩
 rintro i m σ' H' ⟨hi,hm,S',G,xs,acc,rest,r',hp',a',hl',nl',da',la',ec',ea⟩
 have oa:∀ b,b∈osC pc a pc→b=a:=fun b hb=>by
  have hb:b∈(if pc=pc then [a] else []):=hb
  rw [if_pos rfl] at hb; exact List.mem_singleton.mp hb
 have w2:=wk H' G (fun b o f e=>a'.same b o (fun hb=>by have:=oa b hb; subst this; exact nf f) e) (fun b f=>a'.up b (.inl f))
 cases q:its[i]? with
 | none=>
  have hle:its.length≤i:=List.getElem?_eq_none_iff.mp q
  rw [List.drop_eq_nil_of_le hle] at ec'
  obtain ⟨ks,hk⟩:=hp'
  simp only [compMP,puOf,hk,Option.map_some,Option.some.injEq,Prod.mk.injEq] at ec'
  obtain ⟨rfl,rfl⟩:=ec'
  rw [List.append_nil] at ea
  subst ea
  refine .inl ⟨w2.2 i hle,?_⟩
  obtain ⟨a2,_,eo2,nf2,hh2⟩:=r'.pu hk
  have:a2=a:=oa a2 (by rw [eo2]; simp)
  subst this
  have va:VA B H' G (.ref l) (.li acc) [l]:=⟨l,xs,rfl,rfl,nl',hl',da'⟩
  have fr1:∀ b,b∈[l]→H1 b=none:=fun b hb=>by rw [List.mem_singleton.mp hb]; exact hl
  obtain ⟨F2,aO,r3,va2⟩:=pu_back r1 hp1 eo hn (fun b u h ne=>a'.same b u (fun hb=>ne (oa b hb)) h) a'.up a'.new nf2 hh2 va fr1
  rw [set_set'] at r3
  exact k (.ref l) H' F2 [l] (al.trans aO) r3 va2 fun b hb=>al.back (fr1 b hb)
 | some d=>
  have hlt:i < its.length:=(List.getElem?_eq_some_iff.mp q).1
  have hd:its.drop i=d :: its.drop (i+1):=by
   rw [List.drop_eq_getElem_cons hlt]
   have:its[i]=d:=(List.getElem?_eq_some_iff.mp q).2
   rw [this]
  rw [hd,compMP] at ec'
  obtain ⟨go,yl⟩:=w2.1 i d q
  refine .inr ⟨go,fun σ'' H''=>i+1≤its.length∧∃ S' G xs acc rest,Rep B H'' G σ'' S' (osC pc a)∧isPu S' pc∧AlO (osC pc a) pc H1 (orF F1 (osL os Lf)) H'' G∧H'' l=some (.lst xs)∧¬ G l∧DAs B H'' G xs acc∧acc.length≤i+1∧
   compMP pc mg mt me (its.drop (i+1)) S'=some (rest,nF)∧acc++rest=ds,fun σ'' H'' n=>⟨its.length-(i+1),by omega,n.1,rfl,n.2⟩,fun x H2 y=>?_⟩
  obtain ⟨G2,al2,da2⟩:=yl x H2 y
  have r2:=r'.mono al2
  obtain ⟨S1,e1,ec'⟩:=bind1 ec'
  obtain ⟨⟨c,n2⟩,e2,ec'⟩:=bind1 ec'
  refine hg S' σ' H2 G2 _ x d S1 _ r2 da2 e1 fun σ2 os2 st2 r3=>?_
  obtain ⟨eos,hp3⟩:=osC_keep r2 hp' r3 st2
  subst eos
  have aO2:AlO (osC pc a) pc H' G H2 G2:=al2.o r' hp'
  refine ht S1 σ2 H2 G2 _ _ c n2 r3 hp3 e2 fun H3 G3 al3 r4=>?_
  have hp4:=hp3.set' n2
  have noL:∀ {G':Addr→Prop} {σ':St} {S':FSt} {H':Hp},Rep B H' G' σ' S' (osC pc a)→l∉osC pc a pc:=fun _ hb=>la (oa l hb)
  have a23:=aO2.trans al3
  have hl3:H3 l=some (.lst xs):=a23.same l _ (noL r') hl'
  have nlK:∀ {Hx:Hp} {Gx:Addr→Prop},AlO (osC pc a) pc H' G Hx Gx→¬ Gx l:=fun {Hx Gx} ax z=>by
   rcases ax.new l z with z | z | ⟨ys,z⟩
   ·exact nl' z
   ·rw [hl'] at z; cases z.1
   ·rw [hl'] at z; cases z
  have daK:∀ {Hx:Hp} {Gx:Addr→Prop},AlO (osC pc a) pc H' G Hx Gx→DAs B Hx Gx xs acc:=fun {Hx Gx} ax=>da'.mono (fun b o f e=>ax.same b o (fun hb=>(r'.alive hb).2 f) e) ax.up
  cases c with
  | false=>
   rw [if_neg Bool.false_ne_true] at ec' ⊢
   exact ⟨hlt,_,G3,xs,acc,rest,r4,hp4,a'.trans a23,hl3,nlK a23,daK a23,by omega,ec',ea⟩
  | true=>
   rw [if_pos rfl] at ec' ⊢
   obtain ⟨⟨w,n3⟩,ew,ec'⟩:=bind1 ec'
   rw [Option.map_eq_some_iff] at ec'
   obtain ⟨⟨rest',n4⟩,er,ec'⟩:=ec'
   cases ec'
   refine he.d r4 hp4 ew fun y H4 G4 al4 r5 dy=>?_
   rw [set_set'] at r5
   have a24:=a23.trans al4
   have hl4:H4 l=some (.lst xs):=a24.same l _ (noL r') hl'
   have nl4:=nlK a24
   have da4:=daK a24
   have dy':DA B H4 G4 y w.fr:=dy.mono (fun _ _ _ e=>e) fun b z=>by
    rcases z with z | ⟨j,hj,z⟩
    ·exact z
    ·have z:b∈(if j=pc then [a] else []):=z
     split at z
     ·rename_i q; rw [q] at hj; exact absurd hj hne
     ·simp at z
   have hp5:isPu (S1.set pc (some (.pu n3))) pc:=hp3.set' n3
   refine ⟨xs,hl4,by rw [da4.length]; omega,hlt,_,G4,xs++[y],acc++[w.fr],rest',?_,hp5,?_,upd_same,nl4,?_,?_,er,by simpa using ea⟩
   ·refine ⟨fun j x h=>?_,r5.out,r5.inj,fun b f=>?_,r5.len⟩
    ·obtain ⟨v,h1,h2⟩:=r5.at' j x h
     exact ⟨v,h1,h2.mono (fun b u f e=>by rw [upd_ne]; exact e; rintro rfl; exact nl4 f) (fun b u hb e=>by
      rw [upd_ne]; exact e
      rintro rfl
      have hb:b∈(if j=pc then [a] else []):=hb
      split at hb
      ·exact la (List.mem_singleton.mp hb)
      ·simp at hb) (fun _ f=>f) fun b hb=>(r5.alive hb).2⟩
    ·unfold upd
     split
     ·simp
     ·exact r5.fd b f
   ·have a4:=a'.trans a24
    refine ⟨fun b o n e=>?_,a4.up,fun b z=>?_,fun b hb=>?_⟩
    ·rw [upd_ne (ne_of_none e hl)]; exact a4.same b o n e
    ·rcases a4.new b z with z | z | z
     ·exact .inl z
     ·refine .inr (.inl ⟨z.1,?_⟩)
      unfold upd
      split
      ·simp
      ·exact z.2
     ·exact .inr (.inr z)
    ·obtain ⟨ys,h⟩:=a4.li b hb
     exact ⟨ys,by rw [upd_ne]; exact h; rintro rfl; exact la (oa b hb)⟩
   ·exact (da4.append (.cons dy' .nil)).mono (fun b u f e=>by rw [upd_ne]; exact e; rintro rfl; exact nl4 f) fun _ f=>f
   ·simp; omega
end
end L2
namespace L2
open PySem PySem.Spec PyProof.Rows
@[simp] def mSetP (p i:Nat) (L:List Nat) (me:FSt→Option (SV×List Int)):FSt→Fl:=fun S=>match puOf S p,me S with
 | some _,some y=>put i L y.1 (S.set p (some (.pu y.2)))
 | _,_=>.bad
@[simp] def mAsgP (p:Nat) (L:List Nat) (me:FSt→Option (SV×List Int)) (mg:D→FSt→Option FSt):FSt→Fl:=fun S=>match puOf S p,me S with
 | some _,some y=>if y.1.plain=true then (match mg y.1.fr (S.set p (some (.pu y.2))) with | some S'=>.nx S' | none=>.bad) else if L.any (isLk (S.set p (some (.pu y.2))))=false then (match mg y.1.fr (frzs L (S.set p (some (.pu y.2)))) with | some S'=>.nx S' | none=>.bad) else .bad
 | _,_=>.bad
@[simp] def mIfP (p:Nat) (c:FSt→Option (Bool×List Int)) (a b:FSt→Fl):FSt→Fl:=fun S=>match puOf S p,c S with
 | some _,some y=>if y.1=true then a (S.set p (some (.pu y.2))) else b (S.set p (some (.pu y.2)))
 | _,_=>.bad
@[simp] def mForP (p:Nat) (mi:FSt→Option (List D×List Int)) (mg:D→FSt→Option FSt) (mb:FSt→Fl):FSt→Fl:=fun S=>match puOf S p,mi S with
 | some _,some y=>loopM mg mb y.1 (S.set p (some (.pu y.2)))
 | _,_=>.bad
@[simp] def mRetP (p:Nat) (me:FSt→Option (SV×List Int)):FSt→Fl:=fun S=>match puOf S p,me S with
 | some _,some y=>.rt y.1
 | _,_=>.bad
@[simp] def mPop (p:Nat):FSt→Option (SV×List Int):=fun S=>(puOf S p).bind fun ns=>(ns[ns.length-1]?).map fun n=>(.sh (.int n),ns.dropLast)
@[simp] def mPutP (p:Nat) (me:FSt→Option (SV×List Int)) (mk:FSt→Option D):FSt→Fl:=fun S=>match puOf S p,me S with
 | some _,some y=>match y.1,mk (S.set p (some (.pu y.2))) with
  | .sh (.int v),some (.int k)=>match ixN y.2.length k with
   | some j=>.nx (S.set p (some (.pu (y.2.set j v))))
   | none=>.bad
  | _,_=>.bad
 | _,_=>.bad
noncomputable def mAppPop (p i j:Nat) (me:FSt→Option (SV×List Int)):FSt→Fl:=fun S=>match puOf S p,me S with
 | some _,some (.sh (.int k),ns)=>match (S.set p (some (.pu ns)))[i]?,(S.set p (some (.pu ns)))[j]? with
  | some (some (.li ys)),some (some (.li xs))=>if i≠j∧cRngB k=true∧ys.length < sizeLine then (match (seqIndex? k xs.length).bind fun n=>(xs[n]?).map fun d=>(n,d) with
   | some nd=>.nx (((S.set p (some (.pu ns))).set j (some (.li (xs.eraseIdx nd.1)))).set i (some (.li (ys++[nd.2]))))
   | none=>.bad) else .bad
  | _,_=>.bad
 | _,_=>.bad
section
variable {B:Bk} {p:Nat} {te:TE} {L:List Nat} {me:FSt→Option (SV×List Int)} {K:W.Frag}
theorem puOf_is {S:FSt} {ns:List Int} (h:puOf S p=some ns):S[p]? = some (some (.pu ns)):=by
 unfold puOf at h
 split at h
 ·rename_i e; cases h; exact e
 ·cases h
theorem put_okP {S S1:FSt} {σ:St} {H H':Hp} {F F':Addr→Prop} {os:Nat→List Addr} {i:Nat} {v:V} {x:SV} {o:List Addr} {E:Ends} (r:Rep B H F σ S os) (st0:FStep σ S H F os σ S1 H' F' os) (h:Lands B σ S H F os E (put i L x S1)) (r':Rep B H' F' σ S1 os)
  (va:VA B H' (orF F' (osL os L)) v x o) (fr:∀ b,b∈o→H b=none):E.nx (σ.set i (some v)) H':=by
 unfold put at h
 split at h
 case isFalse=>exact h.elim
 case isTrue c=>
  obtain ⟨hi,hl,hp⟩:=c
  have nj:∀ (j:Nat) {x:SV},S1[j]? = some (some x)→lkO (some x)=true→j≠i:=fun j x e q=>by
   rintro rfl; unfold isLk at hl; rw [e] at hl; simp only [Option.join_some] at hl; rw [q] at hl; cases hl
  have no:∀ b,b∈o→∀ j,j≠i→b∉os j:=fun b e j _ z=>(r.alive z).1 (fr b e)
  have fin:∀ (S2:FSt),(∀ j x,S1[j]? = some (some x)→lkO (some x)=true→S2[j]? = some (some x))→(∀ (j:Nat) (xs:List D),S[j]? = some (some (SV.lk xs))→(S2.set i (some x))[j]? = some (some (SV.lk xs))∧(σ.set i (some v))[j]? = σ[j]?)∧
    (∀ (j c:Nat) (fs:List (Str×D)),S[j]? = some (some (SV.ob c fs))→(∃ fs',(S2.set i (some x))[j]? = some (some (SV.ob c fs')))∧(σ.set i (some v))[j]? = σ[j]?)∧
    (∀ (j:Nat) (xs:List Int),S[j]? = some (some (SV.pu xs))→(∃ xs',(S2.set i (some x))[j]? = some (some (SV.pu xs')))∧(σ.set i (some v))[j]? = σ[j]?):=fun S2 h2=>by
   refine ⟨fun j xs e=>?_,fun j c fs e=>?_,fun j xs e=>?_⟩
   ·obtain ⟨e1,_⟩:=st0.lok j xs e
    have hj:=nj j e1 rfl
    exact ⟨by rw [List.getElem?_set_ne (Ne.symm hj)]; exact h2 j _ e1 rfl,by rw [List.getElem?_set_ne (Ne.symm hj)]⟩
   ·obtain ⟨⟨fs',e1⟩,_⟩:=st0.lob j c fs e
    have hj:=nj j e1 rfl
    exact ⟨⟨fs',by rw [List.getElem?_set_ne (Ne.symm hj)]; exact h2 j _ e1 rfl⟩,by rw [List.getElem?_set_ne (Ne.symm hj)]⟩
   ·obtain ⟨⟨fs',e1⟩,_⟩:=st0.lpu j xs e
    have hj:=nj j e1 rfl
    exact ⟨⟨fs',by rw [List.getElem?_set_ne (Ne.symm hj)]; exact h2 j _ e1 rfl⟩,by rw [List.getElem?_set_ne (Ne.symm hj)]⟩
  by_cases pl:x.plain=true
  ·rw [if_pos pl] at h
   obtain ⟨f1,f2,f3⟩:=fin S1 fun j x e _=>e
   have r2:=r'.set (i:=i) (va.toF r' pl) no hi
   refine h _ H' F' _ ⟨st0.keep,st0.liv,st0.up,st0.new,fun j b e=>?_,f1,f2,f3⟩ r2
   have e:b∈(if j=i then o else os j):=e
   split at e
   ·exact .inl (fr b e)
   ·exact st0.own j b e
  ·rw [if_neg pl] at h
   have hp:L.any (isLk S1)=false:=hp.resolve_left pl
   obtain ⟨f1,f2,f3⟩:=fin (frzs L S1) fun j x e q=>by
    rw [frzs_get,if_neg,e]
    intro z
    rw [List.any_eq_false] at hp
    have:=hp j z
    unfold isLk at this
    rw [e] at this
    exact this q
   have r1:=r'.frz L
   have r2:=r1.set (i:=i) va (fun b e j hj z=>by
    have z:b∈(if j∈L then [] else os j):=z
    split at z
    ·simp at z
    ·exact no b e j hj z) (by rw [frzs_len]; exact hi)
   refine h _ H' _ _ ⟨st0.keep,st0.liv,fun b z=>.inl (st0.up b z),fun b z=>?_,fun j b e=>?_,f1,f2,f3⟩ r2
   ·rcases z with z | ⟨k,_,z⟩
    ·exact st0.new b z
    ·exact .inr (.inr (.inl ⟨k,z⟩))
   ·have e:b∈(if j=i then o else if j∈L then [] else os j):=e
    split at e
    ·exact .inl (fr b e)
    ·split at e
     ·simp at e
     ·exact st0.own j b e
theorem fs_setP {i:Nat} (he:FPE B p te L me):FS B (tAsg te (gName i)) (mSetP p i L me):=by
 intro S σ H F os E r h
 unfold mSetP at h
 split at h
 case h_2=>exact h.elim
 case h_1 ks y e1 e2=>
  have hp:isPu S p:=⟨ks,puOf_is e1⟩
  exact he S σ H F os _ y.1 y.2 r hp e2 fun v H' F' o a r' va fr=>put_okP r (a.step hp y.2) h r' va fr
theorem fs_asgP {g:TG} {mg:D→FSt→Option FSt} (he:FPE B p te L me) (hg:FG B g mg):FS B (tAsg te g) (mAsgP p L me mg):=by
 intro S σ H F os E r h
 unfold mAsgP at h
 split at h
 case h_2=>exact h.elim
 case h_1 ks y e1 e2=>
  have hp:isPu S p:=⟨ks,puOf_is e1⟩
  refine he S σ H F os _ y.1 y.2 r hp e2 fun v H' F' o a r' va fr=>?_
  have r2:Rep B H' (fun b=>F' b∨b∈o) σ (S.set p (some (.pu y.2))) os:=r'.more (fun b h=>.inl h) (fun b h=>by
   rcases h with h | h
   ·exact r'.fd b h
   ·exact (va.alive h).1) fun i b hb h=>by
   rcases h with h | h
   ·exact (r'.alive hb).2 h
   ·exact (r.alive hb).1 (fr b h)
  have aO:AlO os p H F H' (fun b=>F' b∨b∈o):=⟨a.same,fun b h=>.inl (a.up b h),fun b h=>by
   rcases h with h | h
   ·exact a.new b h
   ·exact .inr (.inl ⟨fr b h,(va.alive h).1⟩),a.li⟩
  have st:=aO.step (σ:=σ) hp y.2
  split at h
  ·rename_i pl
   have da:DA B H' (fun b=>F' b∨b∈o) v y.1.fr:=(va.toF r' pl).frozen (fun b z=>.inl z) fun b z=>.inr z
   split at h
   ·rename_i S' e
    exact hg _ σ H' _ os v y.1.fr S' _ r2 da e fun σ' os' st2 r3=>h σ' H' _ os' (st.trans st2) r3
   ·exact h.elim
  ·split at h
   ·rename_i nl
    have r3:=r2.frz L
    have da:DA B H' (orF (fun b=>F' b∨b∈o) (osL os L)) v y.1.fr:=va.frozen (fun b z=>by
     rcases z with z | z
     ·exact .inl (.inl z)
     ·exact .inr z) fun b z=>.inl (.inr z)
    split at h
    ·rename_i S' e
     exact hg _ σ H' _ _ v y.1.fr S' _ r3 da e fun σ' os' st2 r4=>h σ' H' _ os' ((st.trans (frz_step r2 nl)).trans st2) r4
    ·exact h.elim
   ·exact h.elim
theorem fs_ifP {tt:TT} {mc:FSt→Option (Bool×List Int)} {t u:TS} {ma mb:FSt→Fl} (hc:FPT B p tt mc) (h1:FS B t ma) (h2:FS B u mb):FS B (tIfS tt t u) (mIfP p mc ma mb):=by
 intro S σ H F os E r h
 unfold mIfP at h
 split at h
 case h_2=>exact h.elim
 case h_1 ks y e1 e2=>
  have hp:isPu S p:=⟨ks,puOf_is e1⟩
  refine hc S σ H F os _ y.1 y.2 r hp e2 fun H' F' a r'=>?_
  split at h
  ·rename_i q; rw [if_pos q]; exact h1 _ σ H' F' os E r' (h.later (a.step hp _))
  ·rename_i q; rw [if_neg q]; exact h2 _ σ H' F' os E r' (h.later (a.step hp _))
theorem AlO.write {S:FSt} {σ:St} {H:Hp} {F:Addr→Prop} {os:Nat→List Addr} {a:Addr} {ns:List Int} (eo:os p=[a]):AlO os p H F (upd H a (.lst (ns.map V.int))) F:=
 ⟨fun b o n e=>by rw [upd_ne]; exact e; rintro rfl; exact n (by rw [eo]; simp),fun _ h=>h,fun _ h=>.inl h,fun b hb=>by rw [eo] at hb; cases List.mem_singleton.mp hb; exact ⟨_,upd_same⟩⟩
theorem fpe_pop (hK:B.K=K):FPE B p (tBM0 K "list" rPop (tVar p)) [] (mPop p):=by
 subst hK
 intro S σ H F os Q x ns r hp e k
 obtain ⟨ks,hk⟩:=hp
 obtain ⟨a,hv,eo,nf,hh⟩:=r.pu hk
 simp only [mPop,puOf,hk,Option.bind_some,Option.map_eq_some_iff] at e
 obtain ⟨n,e1,e2⟩:=e
 cases e2
 refine ⟨.ref a,hv,.inl ⟨rfl,_,.inl (.inl hh)⟩,a,_,.int n,rfl,rfl,hh,by simp [e1],?_⟩
 have e3:(ks.map V.int).dropLast=ks.dropLast.map V.int:=by simp [List.map_dropLast]
 rw [e3]
 have r2:=r.write (u:=.lst (ks.dropLast.map V.int)) (x:=.pu ks.dropLast) (by rw [eo]; simp) hv ⟨a,rfl,eo,nf,upd_same⟩
 exact k _ _ F [] (AlO.write (S:=S) (σ:=σ) eo) r2 ⟨rfl,.int n⟩ (by simp)
theorem fs_putP {ti:TE} {Li:List Nat} {mk:FSt→Option D} (he:FPE B p te L me) (hi:FD B ti Li mk):FS B (tAsg te (gSub (tVar p) ti rSetL)) (mPutP p me mk):=by
 intro S σ H F os E r h
 unfold mPutP at h
 split at h
 case h_2=>exact h.elim
 case h_1 ks y e1 e2=>
  obtain ⟨x,ns⟩:=y
  dsimp only at h
  have hp:isPu S p:=⟨ks,puOf_is e1⟩
  split at h
  case h_2=>exact h.elim
  case h_1=>
   rename_i w k ek
   split at h
   case h_2=>exact h.elim
   case h_1 j ej=>
    refine he S σ H F os _ _ _ r hp e2 fun v H1 F1 o a1 r1 va fr=>?_
    obtain ⟨rfl,da⟩:=va
    cases da
    obtain ⟨a,hv,eo,nf,hh⟩:=r1.pu (hp.set ns)
    refine ⟨.ref a,hv,hi _ σ H1 F1 os _ _ r1 ek fun vi H2 F2 a2 r2 di=>?_⟩
    cases di
    obtain ⟨a',hv',eo',nf2,hh2⟩:=r2.pu (hp.set ns)
    rw [eo] at eo'; cases eo'
    refine ⟨a,_,k,j,rfl,rfl,hh2,by simpa using ej,?_⟩
    have e3:(ns.map V.int).set j (.int w)=(ns.set j w).map V.int:=by simp [List.map_set]
    rw [e3]
    have r3:=r2.write (u:=.lst ((ns.set j w).map V.int)) (x:=.pu (ns.set j w)) (by rw [eo]; simp) hv ⟨a,rfl,eo,nf2,upd_same⟩
    rw [set_set'] at r3
    have st:FStep σ S H F os σ (S.set p (some (.pu (ns.set j w)))) (upd H2 a (.lst ((ns.set j w).map V.int))) F2 os:=((a1.trans (a2.o r1 (hp.set' _))).trans (AlO.write (S:=S) (σ:=σ) eo)).step hp _
    exact h σ _ F2 os st r3
theorem DAs.erase {H:Hp} {F:Addr→Prop}:∀ {vs:List V} {ds:List D} (n:Nat),DAs B H F vs ds→DAs B H F (vs.eraseIdx n) (ds.eraseIdx n)
 | _,_,_,.nil=>by simpa using DAs.nil
 | _,_,0,.cons h r=>by simpa using r
 | _,_,n+1,.cons h r=>by simpa using DAs.cons h (DAs.erase n r)
theorem fs_appPop {i j:Nat} (hK:B.K=K) (he:FPE B p te L me):FS B (tDrop (tBM K "list" rAppend (tVar i) (tCons (tBM K "list" rPopAt (tVar j) (tCons te tNil)) tNil))) (mAppPop p i j me):=by
 subst hK
 intro S σ H F os E r h
 unfold mAppPop at h
 split at h
 case h_2=>exact h.elim
 case h_1 ks k ns e1 e2=>
  have hp:isPu S p:=⟨ks,puOf_is e1⟩
  split at h
  case h_2=>exact h.elim
  case h_1 ys xs ei ej=>
   split at h
   case isFalse=>exact h.elim
   case isTrue c=>
    obtain ⟨hij,hr,hz⟩:=c
    split at h
    case h_2=>exact h.elim
    case h_1 nd en=>
     obtain ⟨n,es,en⟩:=bind1 en
     rw [Option.map_eq_some_iff] at en
     obtain ⟨d,ed,rfl⟩:=en
     rw [cRng_iff] at hr
     have hip:i≠p:=by rintro rfl; rw [hp.set] at ei; cases ei
     have hjp:j≠p:=by rintro rfl; rw [hp.set] at ej; cases ej
     have ei0:=ei
     have ej0:=ej
     rw [List.getElem?_set_ne (Ne.symm hip)] at ei0
     rw [List.getElem?_set_ne (Ne.symm hjp)] at ej0
     obtain ⟨v,hvi,ai,ws,rfl,eoi,nfi,hhi,dai⟩:=r.at' i _ ei0
     obtain ⟨v,hvj,aj,us,rfl,eoj,nfj,hhj,daj⟩:=r.at' j _ ej0
     refine ⟨.ref ai,hvi,.inl ⟨rfl,ws,.inl (.inl hhi)⟩,⟨.ref aj,hvj,.inl ⟨rfl,us,.inl (.inl hhj)⟩,?_⟩⟩
     refine he S σ H F os _ _ _ r hp e2 fun w H1 F1 o a1 r1 va fr=>?_
     obtain ⟨rfl,da⟩:=va
     cases da
     obtain ⟨v,hvi1,ai',ws1,q1,eoi1,nfi1,hhi1,dai1⟩:=r1.at' i _ ei
     rw [eoi] at eoi1; cases eoi1
     obtain ⟨v,hvj1,aj',us1,q2,eoj1,nfj1,hhj1,daj1⟩:=r1.at' j _ ej
     rw [eoj] at eoj1; cases eoj1
     have aij:ai≠aj:=by rintro rfl; exact hij (r.inj i j ai (by rw [eoi]; simp) (by rw [eoj]; simp))
     obtain ⟨y,ey,dy⟩:=daj1.get ed
     refine ⟨aj,us1,k,n,y,rfl,rfl,hhj1,by have:=hr.1; omega,by have:=hr.2; omega,by rw [daj1.length]; exact es,ey,?_⟩
     have mj:aj∈os j:=by rw [eoj]; simp
     have mi:ai∈os i:=by rw [eoi]; simp
     have kj:∀ b o,F1 b→H1 b=some o→upd H1 aj (.lst (us1.eraseIdx n)) b=some o:=fun b o f e=>by rw [upd_ne]; exact e; rintro rfl; exact nfj1 f
     have r2:=r1.write (u:=.lst (us1.eraseIdx n)) (x:=.li (xs.eraseIdx n)) mj hvj ⟨aj,_,rfl,eoj,nfj1,upd_same,(daj1.erase n).mono kj fun _ f=>f⟩
     have nlj:isLk (S.set p (some (.pu ns))) j=false:=by unfold isLk; rw [ej]; rfl
     have st2:=(a1.step (σ:=σ) hp ns).trans (write_step (σ:=σ) (H:=H1) (F:=F1) (u:=.lst (us1.eraseIdx n)) (x:=.li (xs.eraseIdx n)) mj (.inl nlj))
     have hhi2:upd H1 aj (.lst (us1.eraseIdx n)) ai=some (.lst ws1):=by rw [upd_ne aij]; exact hhi1
     refine ⟨ai,ws1,y,rfl,rfl,hhi2,by rw [dai1.length]; exact hz,?_⟩
     have dai2:DAs B (upd H1 aj (.lst (us1.eraseIdx n))) F1 ws1 ys:=dai1.mono kj fun _ f=>f
     have dy2:=dy.mono kj fun _ f=>f
     have ki:∀ b o,F1 b→upd H1 aj (.lst (us1.eraseIdx n)) b=some o→upd (upd H1 aj (.lst (us1.eraseIdx n))) ai (.lst (ws1++[y])) b=some o:=fun b o f e=>by rw [upd_ne]; exact e; rintro rfl; exact nfi1 f
     have r3:=r2.write (u:=.lst (ws1++[y])) (x:=.li (ys++[d])) mi hvi ⟨ai,_,rfl,eoi,nfi1,upd_same,(dai2.append (.cons dy2 .nil)).mono ki fun _ f=>f⟩
     have ei2:((S.set p (some (.pu ns))).set j (some (.li (xs.eraseIdx n))))[i]? = some (some (.li ys)):=by rw [List.getElem?_set_ne (Ne.symm hij)]; exact ei
     have nli:isLk ((S.set p (some (.pu ns))).set j (some (.li (xs.eraseIdx n)))) i=false:=by unfold isLk; rw [ei2]; rfl
     exact h σ _ F1 os (st2.trans (write_step mi (.inl nli))) r3
end
inductive Fl2 where
 | nx (S:FSt) | rt (x:SV) (S:FSt) | bad
def Lands2 (B:Bk) (σ:St) (S:FSt) (H:Hp) (F:Addr→Prop) (os:Nat→List Addr) (D:Ends):Fl2→Prop
 | .nx S'=>∀ σ' H' F' os',FStep σ S H F os σ' S' H' F' os'→Rep B H' F' σ' S' os'→D.nx σ' H'
 | .rt x S'=>∀ v σ' H' F' os' o,FStep σ S H F os σ' S' H' F' os'→Rep B H' F' σ' S' os'→VA B H' F' v x o→(∀ b,b∈o→(H b=none∨∃ j,b∈os j)∧∀ j,b∉os' j)→D.rt v H'
 | .bad=>False
def FS2 (B:Bk) (t:TS) (m:FSt→Fl2):Prop:=
 ∀ (S:FSt) (σ:St) (H:Hp) (F:Addr→Prop) (os:Nat→List Addr) (D:Ends),Rep B H F σ S os→Lands2 B σ S H F os D (m S)→t D σ H
@[simp] def mOf (m:FSt→Fl):FSt→Fl2:=fun S=>match m S with
 | .nx S'=>.nx S'
 | _=>.bad
@[simp] def mSeq2 (a b:FSt→Fl2):FSt→Fl2:=fun S=>match a S with
 | .nx S1=>b S1
 | r=>r
@[simp] def mIf2 (c:FSt→Option Bool) (a b:FSt→Fl2):FSt→Fl2:=fun S=>match c S with
 | some true=>a S
 | some false=>b S
 | none=>.bad
@[simp] def mIf2P (p:Nat) (c:FSt→Option (Bool×List Int)) (a b:FSt→Fl2):FSt→Fl2:=fun S=>match puOf S p,c S with
 | some _,some y=>if y.1=true then a (S.set p (some (.pu y.2))) else b (S.set p (some (.pu y.2)))
 | _,_=>.bad
@[simp] def mRet2 (p:Nat) (L:List Nat) (me:FSt→Option (SV×List Int)):FSt→Fl2:=fun S=>match puOf S p,me S with
 | some _,some y=>if y.1.plain=true then .rt y.1 (S.set p (some (.pu y.2))) else if L.any (isLk (S.set p (some (.pu y.2))))=false then .rt y.1 (frzs L (S.set p (some (.pu y.2)))) else .bad
 | _,_=>.bad
@[simp] def mRetV2 (i:Nat):FSt→Fl2:=fun S=>match S[i]? with
 | some (some x)=>if lkO (some x)=false then .rt x (S.set i none) else .bad
 | _=>.bad
section
variable {B:Bk} {p:Nat} {te:TE} {L:List Nat} {me:FSt→Option (SV×List Int)} {t u:TS} {ma mb:FSt→Fl2}
theorem Lands2.later {σ σ1:St} {S S1:FSt} {H H1:Hp} {F F1:Addr→Prop} {os os1:Nat→List Addr} {E:Ends} {r:Fl2} (h:Lands2 B σ S H F os E r) (a:FStep σ S H F os σ1 S1 H1 F1 os1):Lands2 B σ1 S1 H1 F1 os1 E r:=by
 cases r with
 | nx S'=>exact fun σ' H' F' os' st=>h σ' H' F' os' (a.trans st)
 | rt x S'=>exact fun v σ' H' F' os' o st r va q=>h v σ' H' F' os' o (a.trans st) r va fun b hb=>⟨by
   rcases (q b hb).1 with z | ⟨j,z⟩
   ·exact .inl (none_back a.liv z)
   ·exact a.own j b z,(q b hb).2⟩
 | bad=>exact h
theorem fs2_of {m:FSt→Fl} (h:FS B t m):FS2 B t (mOf m):=by
 intro S σ H F os E r hl
 refine h S σ H F os E r ?_
 unfold mOf at hl
 cases q:m S with
 | nx S'=>rw [q] at hl; exact hl
 | _=>rw [q] at hl; exact hl.elim
theorem fs2_seq (h1:FS2 B t ma) (h2:FS2 B u mb):FS2 B (tSeq t u) (mSeq2 ma mb):=by
 intro S σ H F os E r h
 refine h1 S σ H F os _ r ?_
 unfold mSeq2 at h
 cases q:ma S with
 | nx S1=>
  rw [q] at h
  intro σ' H' F' os' st r'
  exact h2 S1 σ' H' F' os' E r' (h.later st)
 | rt x S1=>rw [q] at h; exact h
 | bad=>rw [q] at h; exact h
theorem fs2_ret (he:FPE B p te L me):FS2 B (tRet te) (mRet2 p L me):=by
 intro S σ H F os E r h
 unfold mRet2 at h
 split at h
 case h_2=>exact h.elim
 case h_1 ks y e1 e2=>
  have hp:isPu S p:=⟨ks,puOf_is e1⟩
  refine he S σ H F os _ y.1 y.2 r hp e2 fun v H' F' o a r' va fr=>?_
  have no:∀ b,b∈o→∀ j,b∉os j:=fun b hb j z=>(r.alive z).1 (fr b hb)
  split at h
  ·rename_i pl
   exact h v σ H' F' os o (a.step hp _) r' (va.toF r' pl) fun b hb=>⟨.inl (fr b hb),no b hb⟩
  ·split at h
   ·rename_i nl
    refine h v σ H' _ _ o ((a.step hp _).trans (frz_step r' nl)) (r'.frz L) va fun b hb=>⟨.inl (fr b hb),fun j z=>?_⟩
    have z:b∈(if j∈L then [] else os j):=z
    split at z
    ·simp at z
    ·exact no b hb j z
   ·exact h.elim
theorem fs2_retV (i:Nat):FS2 B (tRet (tVar i)) (mRetV2 i):=by
 intro S σ H F os E r h
 unfold mRetV2 at h
 split at h
 case h_2=>exact h.elim
 case h_1 x e=>
  split at h
  case isFalse=>exact h.elim
  case isTrue nl=>
   obtain ⟨v,hv,va⟩:=r.at' i x e
   refine ⟨v,hv,h v σ H F (fun j=>if j=i then [] else os j) (os i) ⟨fun b o h _=>h,fun b h=>h,fun _ h=>h,fun _ h=>.inl h,fun j b hb=>?_,fun j xs hj=>?_,fun j c fs hj=>?_,fun j xs hj=>?_⟩ ⟨fun j y hj=>?_,fun j hj=>?_,fun j k b e1 e2=>?_,r.fd,by simp [r.len]⟩ va fun b hb=>⟨.inr ⟨i,hb⟩,fun j z=>?_⟩⟩
   ·have hb:b∈(if j=i then [] else os j):=hb
    split at hb
    ·simp at hb
    ·exact .inr ⟨j,hb⟩
   ·have:j≠i:=by rintro rfl; rw [e] at hj; cases hj; cases nl
    exact ⟨by rw [List.getElem?_set_ne (Ne.symm this)]; exact hj,rfl⟩
   ·have:j≠i:=by rintro rfl; rw [e] at hj; cases hj; cases nl
    exact ⟨⟨fs,by rw [List.getElem?_set_ne (Ne.symm this)]; exact hj⟩,rfl⟩
   ·have:j≠i:=by rintro rfl; rw [e] at hj; cases hj; cases nl
    exact ⟨⟨xs,by rw [List.getElem?_set_ne (Ne.symm this)]; exact hj⟩,rfl⟩
   ·have ji:j≠i:=by
     rintro rfl
     rw [List.getElem?_set,if_pos rfl] at hj
     split at hj <;> cases hj
    rw [List.getElem?_set_ne (Ne.symm ji)] at hj
    obtain ⟨w,h1,h2⟩:=r.at' j y hj
    exact ⟨w,h1,by rw [if_neg ji]; exact h2⟩
   ·show (if j=i then [] else os j)=[]
    by_cases q:j=i
    ·rw [if_pos q]
    ·rw [if_neg q]
     exact r.out j fun y z=>hj y (by rw [List.getElem?_set_ne (Ne.symm q)]; exact z)
   ·have e1:b∈(if j=i then [] else os j):=e1
    have e2:b∈(if k=i then [] else os k):=e2
    split at e1
    ·simp at e1
    ·split at e2
     ·simp at e2
     ·exact r.inj j k b e1 e2
   ·have z:b∈(if j=i then [] else os j):=z
    split at z
    ·simp at z
    ·rename_i q; exact q (r.inj j i b z hb)
end
def runP (m:FSt→Fl2) (n k:Nat) (ns:List Int) (ds:List D):Option (SV×List Int):=if ds.length+1=n then (match m (some (.pu ns) :: (ds.map (fun d=>some (.sh d))++List.replicate (k-n) none)) with
 | .rt x S=>(puOf S 0).map fun ns'=>(x,ns')
 | _=>none) else none
def runT (m:FSt→Fl) (n k:Nat) (ns:List Int) (ds:List D):Option SV:=if ds.length+1=n then (match m (some (.pu ns) :: (ds.map (fun d=>some (.sh d))++List.replicate (k-n) none)) with
 | .nx _=>some (.sh .non)
 | .rt x=>some x
 | _=>none) else none
theorem runP_len {m:FSt→Fl2} {n k:Nat} {ns:List Int} {ds:List D} {z:SV×List Int} (h:runP m n k ns ds=some z):ds.length+1=n:=by
 unfold runP at h
 split at h
 ·assumption
 ·cases h
theorem runT_len {m:FSt→Fl} {n k:Nat} {ns:List Int} {ds:List D} {z:SV} (h:runT m n k ns ds=some z):ds.length+1=n:=by
 unfold runT at h
 split at h
 ·assumption
 ·cases h
theorem rep_startP {B:Bk} {H:Hp} {G:Addr→Prop} {N:List Str} {vs:List V} {ds:List D} {a:Addr} {ns:List Int} (hg:∀ b,G b→H b≠none) (hx:¬ G a) (hh:H a=some (.lst (ns.map V.int))) (da:DAs B H G vs ds) (hn:vs.length+1≤N.length) :
  Rep B H G (start N (.ref a :: vs)) (some (.pu ns) :: (ds.map (fun d=>some (.sh d))++List.replicate (N.length-(ds.length+1)) none)) (fun i=>if i=0 then [a] else []):=by
 have hs:start N (.ref a :: vs)=some (.ref a) :: (vs.map some++List.replicate (N.length-(vs.length+1)) none):=rfl
 refine ⟨fun i y h=>?_,fun i h=>?_,fun i j c e1 e2=>?_,hg,?_⟩
 ·cases i with
  | zero=>
   cases h
   exact ⟨.ref a,by rw [hs]; rfl,a,rfl,rfl,hx,hh⟩
  | succ i=>
   rw [hs]
   rw [List.getElem?_cons_succ] at h ⊢
   by_cases hi:i < ds.length
   ·rw [List.getElem?_append_left (by simpa using hi),List.getElem?_map] at h
    cases q:ds[i]? with
    | none=>rw [q] at h; cases h
    | some d=>
     rw [q] at h; cases h
     obtain ⟨v,e,da'⟩:=da.get q
     refine ⟨v,?_,rfl,da'⟩
     rw [List.getElem?_append_left (by simp; rw [da.length]; exact hi),List.getElem?_map,e]; rfl
   ·rw [List.getElem?_append_right (by simpa using hi)] at h
    rw [List.getElem?_replicate] at h
    split at h <;> cases h
 ·cases i with
  | zero=>exact absurd rfl (h _)
  | succ i=>rfl
 ·have e1:c∈(if i=0 then [a] else []):=e1
  have e2:c∈(if j=0 then [a] else []):=e2
  split at e1
  ·split at e2
   ·omega
   ·simp at e2
  ·simp at e1
 ·rw [hs]
  have:=da.length
  simp
  omega
section
variable {P:Program} {w:World} {K:W.Frag} {mg:Str→Option Value} {base:Heap} {x qual:Str} {st:Stmt} {f:Addr} {fd:FuncData} {N ps:List Str} {k:Nat} {B:Bk}
theorem Fun.okP {m : FSt → Fl2} (F : Fun K x qual st f fd) (S : FnScope N ps (defScope st))
    (hbody : ∀ (cdv : Value) (A : Around) (outer : List Env) (s : Shared) (H : Hp) (E : XK), Room k (A.deeper (envOfC qual (defScope st) s.heap.objs.size f cdv)) →
      ∃ t, PSs (cxOf CX0 P w K mg base N qual (defScope st) f cdv A outer s H E).nox (defBody st) t ∧ FS2 B t m) : FnOk P w K mg base CX0 (k + 1) f fd ps (SpP B ps.length (runP m ps.length N.length)) := by
  obtain ⟨oc, od, kV, doc, pm, an, cdv, ct, osl, rfl, lk, hcd⟩ := F.ex
  have hpl : ps.length ≤ N.length := by have := congrArg List.length S.pre; rw [List.length_take] at this; omega
  refine fn_of lk hcd S (fun vs H Q E h => h.1) fun A outer s H vs Q E hr ⟨hl, G, a, ns, vs', ds, z, ns', e0, hg, hx, hh, da, hz, post⟩ => ?_
  subst e0
  obtain ⟨t, ht, hf⟩ := hbody cdv A outer s H E hr
  refine ⟨t, ht.nox, ?_⟩
  have hdl := runP_len hz
  have hvl : vs'.length + 1 ≤ N.length := by simp at hl; omega
  have r0 := rep_startP hg hx hh da hvl
  refine hf _ _ H G _ _ r0 ?_
  unfold runP at hz
  rw [if_pos hdl] at hz
  rw [hdl]
  cases q : m (some (.pu ns) :: (ds.map (fun d => some (.sh d)) ++ List.replicate (N.length - ps.length) none)) with
  | rt x S' =>
    rw [q] at hz
    rw [Option.map_eq_some_iff] at hz
    obtain ⟨n2, e1, e2⟩ := hz
    cases e2
    have hS := puOf_is e1
    intro v σ' H' F' os' o st r' va hb
    obtain ⟨⟨n3, hS3⟩, hσ⟩ := st.lpu 0 ns rfl
    obtain ⟨a', hv, eo, nf, hh'⟩ := r'.pu hS
    rw [hσ] at hv
    have : a = a' := by
      have h0 : (start N (V.ref a :: vs'))[0]? = some (some (.ref a)) := rfl
      rw [h0] at hv
      cases hv; rfl
    subst this
    refine post v H' F' o (fun b u e ne => st.keep b u e fun i z => ?_) st.up (fun b z => ?_) nf hh' va fun b z => ?_
    · have z : b ∈ (if i = 0 then [a] else []) := z
      split at z
      · exact ne (List.mem_singleton.mp z)
      · simp at z
    · rcases st.new b z with z1 | z1 | ⟨i, z1⟩ | z1
      · exact .inl z1
      · exact .inr (.inl ⟨z1, r'.fd b z⟩)
      · have z1 : b ∈ (if i = 0 then [a] else []) := z1
        split at z1
        · rw [List.mem_singleton.mp z1] at z; exact absurd z nf
        · simp at z1
      · exact .inr (.inr z1)
    · obtain ⟨q1, q2⟩ := hb b z
      rcases q1 with q1 | ⟨j, q1⟩
      · exact q1
      · have q1 : b ∈ (if j = 0 then [a] else []) := q1
        split at q1
        · exact absurd (by rw [eo]; exact q1) (q2 0)
        · simp at q1
  | nx S' => rw [q] at hz; cases hz
  | bad => rw [q] at hz; cases hz
theorem Fun.okT {m : FSt → Fl} (F : Fun K x qual st f fd) (S : FnScope N ps (defScope st))
    (hbody : ∀ (cdv : Value) (A : Around) (outer : List Env) (s : Shared) (H : Hp) (E : XK), Room k (A.deeper (envOfC qual (defScope st) s.heap.objs.size f cdv)) →
      ∃ t, PSs (cxOf CX0 P w K mg base N qual (defScope st) f cdv A outer s H E).nox (defBody st) t ∧ FS B t m) : FnOk P w K mg base CX0 (k + 1) f fd ps (SpT B ps.length (runT m ps.length N.length)) := by
  obtain ⟨oc, od, kV, doc, pm, an, cdv, ct, osl, rfl, lk, hcd⟩ := F.ex
  have hpl : ps.length ≤ N.length := by have := congrArg List.length S.pre; rw [List.length_take] at this; omega
  refine fn_of lk hcd S (fun vs H Q E h => h.1) fun A outer s H vs Q E hr ⟨hl, G, a, ns, vs', ds, z, e0, hg, hx, hh, da, hz, post⟩ => ?_
  subst e0
  obtain ⟨t, ht, hf⟩ := hbody cdv A outer s H E hr
  refine ⟨t, ht.nox, ?_⟩
  have hdl := runT_len hz
  have hvl : vs'.length + 1 ≤ N.length := by simp at hl; omega
  refine hf _ _ H G _ _ (rep_startP hg hx hh da hvl) ?_
  unfold runT at hz
  rw [if_pos hdl] at hz
  rw [hdl]
  have done : ∀ {H' : Hp} {F' : Addr → Prop} {o : List Addr} {v : V} {x : SV}, FStepR H G (fun i => if i = 0 then [a] else []) H' F' o → VA B H' F' v x o → z = x → Q v H' := by
    intro H' F' o v x st va e
    subst e
    refine post v H' F' o (fun b u h ne => st.keep b u h (fun i z => ?_)) st.up (fun b h => ?_) st.fd va fun b h => ?_
    · have z : b ∈ (if i = 0 then [a] else []) := z
      split at z
      · exact ne (List.mem_singleton.mp z)
      · simp at z
    · rcases st.new b h with q | q | ⟨i, q⟩ | q
      · exact .inl q
      · exact .inr (.inl ⟨q, st.fd b h⟩)
      · have q : b ∈ (if i = 0 then [a] else []) := q
        split at q
        · exact .inr (.inr (.inr (List.mem_singleton.mp q)))
        · simp at q
      · exact .inr (.inr (.inl q))
    · rcases st.own b h with q | ⟨i, q⟩
      · exact .inl q
      · have q : b ∈ (if i = 0 then [a] else []) := q
        split at q
        · exact .inr (List.mem_singleton.mp q)
        · simp at q
  cases q : m (some (.pu ns) :: (ds.map (fun d => some (.sh d)) ++ List.replicate (N.length - ps.length) none)) with
  | nx S' =>
    rw [q] at hz
    intro σ' H' F' os' st r'
    exact done (v := .non) (x := .sh .non) ⟨st.keep, st.up, st.new, fun b e => absurd e (by simp), r'.fd⟩ ⟨rfl, .non⟩ (Option.some.inj hz).symm
  | rt x =>
    rw [q] at hz
    intro v H' F' o st va
    exact done st va (Option.some.inj hz).symm
  | bk S' => rw [q] at hz; cases hz
  | ct S' => rw [q] at hz; cases hz
  | bad => rw [q] at hz; cases hz
end
end L2
namespace L2
open PySem PySem.Spec PyProof.Rows
section
variable {ι:Type}
structure JPE (Xs:ι→Cx) (B:Bk) (p:Nat) (e:Expr) (L:List Nat) (m:FSt→Option (SV×List Int)):Prop where
 ex:∃ t,(∀ i,PE (Xs i) e t)∧FPE B p t L m
structure JPA (Xs:ι→Cx) (B:Bk) (p:Nat) (es:List Expr) (L:List Nat) (m:FSt→Option (List D×List Int)):Prop where
 ex:∃ t,(∀ i,PA (Xs i) es t)∧FPA B p t L m
structure JPT (Xs:ι→Cx) (B:Bk) (p:Nat) (e:Expr) (m:FSt→Option (Bool×List Int)):Prop where
 ex:∃ t,(∀ i,PT (Xs i) e t)∧FPT B p t m
structure JPI (Xs:ι→Cx) (B:Bk) (p:Nat) (tg iter:Expr) (m:FSt→Option (List D×List Int)):Prop where
 ex:∃ t,(∀ i,PI (Xs i) tg iter t)∧FPI B p t m
structure JPIf (Xs:ι→Cx) (B:Bk) (p:Nat) (ifs:List Expr) (m:FSt→Option (Bool×List Int)):Prop where
 ex:∃ t,(∀ i,PIf (Xs i) ifs t)∧FPT B p t m
structure JS2 (Xs:ι→Cx) (B:Bk) (st:Stmt) (m:FSt→Fl2):Prop where
 ex:∃ t,(∀ i,PS (Xs i) st t)∧FS2 B t m
structure JB2 (Xs:ι→Cx) (B:Bk) (sts:List Stmt) (m:FSt→Fl2):Prop where
 ex:∃ t,(∀ i,PSs (Xs i) sts t)∧FS2 B t m
variable {Xs:ι→Cx} {P:Program} {w:World} {K:W.Frag} {mg:Str→Option Value} {base:Heap} {k p:Nat} {B:Bk} {a b e o c:Expr} {es:List Expr} {L L' La Lb:List Nat} {ma mb mx:FSt→Option (SV×List Int)} {me:FSt→Option SV} {md:FSt→Option D} {mt:FSt→Option (Bool×List Int)} {mr:FSt→Option (List D×List Int)} {pos:Pos}
theorem jp_pure (h:JE Xs B e L me):JPE Xs B p e L (mPu p me):=let ⟨t,q,f⟩:=h.ex; ⟨⟨t,q,fpe_pure f⟩⟩
theorem jpa_pure {mr:FSt→Option (List D)} (h:JA Xs B es L mr):JPA Xs B p es L (mPu p mr):=let ⟨t,q,f⟩:=h.ex; ⟨⟨t,q,fpa_pure f⟩⟩
theorem jpif_pure {es:List Expr} {mt:FSt→Option Bool} (h:JIf Xs B es mt):JPIf Xs B p es (mPu p mt):=let ⟨t,q,f⟩:=h.ex; ⟨⟨t,q,fpt_pure f⟩⟩
@[simp] def oSh (f:D→D→Option D):D→D→Option SV:=fun x y=>(f x y).map SV.sh
theorem jp_add (jx:JX Xs P w K mg base k B) (ha:JPE Xs B p a La ma) (hb:JPE Xs B p b Lb mb) (na:p∉La:=by decide):JPE Xs B p (.BinOp a .Add b pos) (La++Lb) (mP2 p oAdd ma mb):=
 let ⟨_,pa,fa⟩:=ha.ex; let ⟨_,pb,fb⟩:=hb.ex; ⟨⟨_,fun i=>pe_op (op_addK (jx.k' i)) (pa i) (pb i),fpe_op (e_add jx.bk) fa fb na⟩⟩
@[simp] def mPTest (f:D→D→Option D) (p:Nat) (ma mb:FSt→Option (SV×List Int)):FSt→Option (Bool×List Int):=mP1 asB fun S=>(mP2 p (oSh f) ma mb S).map fun x=>(x.1.fr,x.2)
theorem jpt_cmp {op:CmpOp} {f:D→D→Option D} (hc:JCmp Xs B op f) (ha:JPE Xs B p a La ma) (hb:JPE Xs B p b Lb mb) (na:p∉La:=by decide) (hm:behindInMarks op b=false:=by first | exact nomark _ | rfl):JPT Xs B p (.Compare a [op] [b] pos) (mPTest f p ma mb):=
 let ⟨_,ho,hf⟩:=hc.ex; let ⟨_,pa,fa⟩:=ha.ex; let ⟨_,pb,fb⟩:=hb.ex; ⟨⟨_,fun i=>pt_cmpR (ho i) (pa i) (pb i) hm,fpt_of (fpe_op hf.e fa fb na)⟩⟩
theorem jp_ix (jx:JX Xs P w K mg base k B) (ha:JPE Xs B p a La ma) (hb:JPE Xs B p b Lb mb) (na:p∉La:=by decide) (hs:PlainIx b:=by intros _ _; rfl):JPE Xs B p (.Subscript a b pos) (La++Lb) (mP2 p (oSh oIx) ma mb):=
 let ⟨_,q,f⟩:=ha.ex; let ⟨_,q',f'⟩:=hb.ex; ⟨⟨_,fun i=>pe_ix (ix_seqK (jx.k' i)) (q i) (q' i) hs,fpe_op (od_ix jx.bk).e f f' na⟩⟩
theorem jpa_cons (ha:JPE Xs B p e La ma) (hr:JPA Xs B p es Lb mr) (hs:∀ i,starEach (e :: es) (Xs i).env=(false,eval e (Xs i).env) :: starEach es (Xs i).env) (na:p∉La:=by decide):JPA Xs B p (e :: es) (La++Lb) (mPCons p ma mr):=let ⟨_,q,f⟩:=ha.ex; let ⟨_,q',f'⟩:=hr.ex; ⟨⟨_,fun i=>pa_cons (q i) (q' i) (hs i),fpa_cons f f' na⟩⟩
theorem jp_lst (h:JPA Xs B p es L mr):JPE Xs B p (.List es pos) L (mP1 oLst mr):=let ⟨_,q,f⟩:=h.ex; ⟨⟨_,fun i=>pe_lst (q i),fpe_lst f⟩⟩
theorem jp_callP (jx:JX Xs P w K mg base k B) (p:Nat) {n nf:Nat} {f:Addr} {fd:FuncData} {ps:List Str} {fn:List Int→List D→Option (SV×List Int)} {x y:Str} {p1 p2:Pos} (F:FnOk P w K mg base CX0 n f fd ps (SpP B nf fn)) (hn:n≤k) (hm:mg x=some (.ref f)) (hk:W.keepIn K (.ref f)=true) (hb:Binds K fd ps []) (hf:∀ ns ds z,fn ns ds=some z→ds.length+1=nf)
  (ha:JPA Xs B p es L mr) (na:p∉L:=by decide) (hN:∀ j,(Xs j).N[p]? = some y:=by intro _; rfl) (hv:∀ j,Vis (Xs j).env.scope y:=by intro _; first | exact Or.inl rfl | exact Or.inr (Or.inl rfl) | exact Or.inr (Or.inr rfl)) (hd:(y==("__debug__":Str))=false:=by decide) (hcd:(y==("__classdict__":Str))=false:=by decide)
  (hg:∀ j,Gl (Xs j) x:=by intro _; rfl) (hpl:∀ i,(backTo pos (starEach es (Xs i).env)).any (·.1)=false:=by intro _; rfl) (hdb:(x==("__debug__":Str))=false:=by decide) :
  JPE Xs B p (.Call (.Name x p1) (.Name y p2 :: es) [] pos) L (mCallP fn mr):=
 let ⟨_,q,g⟩:=ha.ex; ⟨⟨_,fun i=>pe_call (jx.fn F i) ((jx.r i).mono hn) (hg i) (jx.m i▸hm) (jx.k' i▸hk) (jx.k' i▸hb) .nil pass0 (pa_cons (pe_var (hN i) (hv i) hd hcd) (q i) st_Name) hdb st_Name (hpl i),fpe_callP hf g na⟩⟩
theorem j_callT (jx:JX Xs P w K mg base k B) {n nf:Nat} {f:Addr} {fd:FuncData} {ps:List Str} {fn:List Int→List D→Option SV} {x:Str} {p1:Pos} (F:FnOk P w K mg base CX0 n f fd ps (SpT B nf fn)) (hn:n≤k) (hm:mg x=some (.ref f)) (hk:W.keepIn K (.ref f)=true) (hb:Binds K fd ps []) (hf:∀ ns ds z,fn ns ds=some z→ds.length+1=nf)
  (ha:JE Xs B e L me) (he:∀ i,starEach [e] (Xs i).env=(false,eval e (Xs i).env) :: starEach [] (Xs i).env) (hg:∀ j,Gl (Xs j) x:=by intro _; rfl) (hpl:∀ i,(backTo pos (starEach [] (Xs i).env)).any (·.1)=false:=by intro _; rfl) (hdb:(x==("__debug__":Str))=false:=by decide) :
  JE Xs B (.Call (.Name x p1) [e] [] pos) L (mCallT fn me):=
 let ⟨_,q,g⟩:=ha.ex; ⟨⟨_,fun i=>pe_call (jx.fn F i) ((jx.r i).mono hn) (hg i) (jx.m i▸hm) (jx.k' i▸hk) (jx.k' i▸hb) .nil pass0 (pa_cons (q i) pa_nil (he i)) hdb (he i) (hpl i),fe_callT hf g⟩⟩
theorem jp_bm (jx:JX Xs P w K mg base k B) {T:String} {name:Str} {f:D→List D→Option SV} {apos cpos:Pos} (hm:JMt Xs B K T name f) (ho:JPE Xs B p o La ma) (ha:JPA Xs B p (e :: es) Lb mr) (hs:∀ i,starEach (e :: es) (Xs i).env=(false,eval e (Xs i).env) :: starEach es (Xs i).env) (na:p∉La:=by decide)
  (hbase:∀ i,attributeBase o name (Xs i).env (eval o (Xs i).env)=eval o (Xs i).env:=by intro _; rfl)
  (hfew:∀ i,((backTo cpos (starEach (e :: es) (Xs i).env)).all (fun x=>!x.1)&&(backToKw cpos (keywordEach [] (Xs i).env)).all (fun x=>x.1.isSome)&&decide ((e :: es).length+([]:List Keyword).length+(if ([]:List Keyword).isEmpty then 0 else 1) < 30))=true:=by intro _; rfl)
  (hline:(apos.endLine==cpos.line)=true:=by rfl) (hplain:∀ i,(backTo cpos (starEach es (Xs i).env)).any (·.1)=false:=by intro _; rfl):JPE Xs B p (.Call (.Attribute o name apos) (e :: es) [] cpos) (La++Lb) (mPBM p f ma mr):=
 let ⟨_,_,h1,h2,h3,h4,h5,h6⟩:=hm.ex; let ⟨_,q',g⟩:=ho.ex; let ⟨_,q,g'⟩:=ha.ex; ⟨⟨_,fun i=>pe_bmK (jx.k' i) h1 h2 h3 (h4 i) (q' i) (q i) (hbase i) (hfew i) hline (hs i) (hplain i),fpe_bm h5 h6 g g' na⟩⟩
theorem jp_pop (jx:JX Xs P w K mg base k B) (p:Nat) {x:Str} {p1 apos cpos:Pos} (hN:∀ j,(Xs j).N[p]? = some x:=by intro _; rfl) (hv:∀ j,Vis (Xs j).env.scope x:=by intro _; first | exact Or.inl rfl | exact Or.inr (Or.inl rfl) | exact Or.inr (Or.inr rfl))
  (hbase:∀ j,attributeBase (.Name x p1) "pop" (Xs j).env (eval (.Name x p1) (Xs j).env)=eval (.Name x p1) (Xs j).env:=by intro _; rfl)
  (hline:(apos.endLine==cpos.line)=true:=by rfl) (hd:(x==("__debug__":Str))=false:=by decide) (hcd:(x==("__classdict__":Str))=false:=by decide):JPE Xs B p (.Call (.Attribute (.Name x p1) "pop" apos) [] [] cpos) [] (mPop p):=
 ⟨⟨_,fun j=>pe_bm0K (jx.k' j) PySem.F.plainAttrs_list PySem.F.slot_list_pop PySem.F.type_list_pop mt_pop (pe_var (hN j) (hv j) hd hcd) (hbase j) hline,fpe_pop jx.bk⟩⟩
@[simp] noncomputable def mR1P (mr:FSt→Option (List D×List Int)):FSt→Option (List D×List Int):=mP1 (fun ds=>match ds with | [.int j]=>fRng [.int j] | _=>none) mr
theorem jpi_rng1 (jx:JX Xs P w K mg base k B) {tg:Expr} {p1:Pos} (hm:mg "range"=none) (ha:JPA Xs B p [a] L mr) (hs:∀ i,starEach [a] (Xs i).env=[(false,eval a (Xs i).env)]:=by intro _; rfl) (hg:∀ i,Gl (Xs i) "range":=by intro _; rfl):JPI Xs B p tg (.Call (.Name "range" p1) [a] [] pos) (mR1P mr):=let ⟨_,q,f⟩:=ha.ex; ⟨⟨_,fun i=>pi_range1 (hg i) (jx.m i▸hm) (q i) (hs i),fpi_rng1 f⟩⟩
theorem jp_comp (jx:JX Xs P w K mg base k B) (pc:Nat) {NX N:List Str} {SX scope:Scope} {own:Nat} {fi Lf Le:List Nat} {tg iter elt:Expr} {ifs:List Expr} {mi:FSt→Option (List D×List Int)} {g1:D→FSt→Option FSt} (S:CompScope NX SX scope N own fi) (hi:JPI Xs B p tg iter mi) (hg:JG (JC Xs scope N) B tg g1) (ht:JPIf (JC Xs scope N) B pc ifs mt) (he:JPE (JC Xs scope N) B pc elt Le ma)
  (hf:fi[pc-own]? = some p:=by rfl) (ho:own≤pc:=by decide) (hu:∀ k < fi.length,fi[k]? = some p→k=pc-own:=by decide) (hL:∀ j,j∈fi→j≠p→j∈Lf:=by decide) (hn:p∉Lf:=by decide) (hne:pc∉Le:=by decide)
  (hN:∀ i,(Xs i).N=NX:=by intro _; rfl) (hS:∀ i,(Xs i).env.scope=SX:=by intro _; rfl) (hs:∀ i x,foldedSetIterable iter (Xs i).env x=pure x:=by intro _ _; rfl):JPE Xs B p (.ListComp elt [⟨tg,iter,ifs,0⟩] scope pos) Lf (mCompP own fi p pc mi g1 mt ma):=
 let ⟨_,p1,f1⟩:=hi.ex; let ⟨_,p2,f2⟩:=hg.ex; let ⟨_,p3,f3⟩:=ht.ex; let ⟨_,p4,f4⟩:=he.ex
 ⟨⟨_,fun i=>pe_comp S (jx.c i) (p1 i) (fun ex s H=>p2 (i,ex,s,H)) (fun ex s H=>p3 (i,ex,s,H)) (fun ex s H=>p4 (i,ex,s,H)) (hN i) (hS i) (hs i),fpe_comp hf ho (fun k h=>hu k (List.getElem?_eq_some_iff.mp h).1 h) hL hn f1 f2 f3 f4 hne⟩⟩
variable {mf mh:FSt→Fl} {st:Stmt} {sts ss:List Stmt} {m2f m2h:FSt→Fl2}
theorem FPE.wk {t:TE} {L L':List Nat} (h:FPE B p t L ma) (hs:∀ i,i∈L→i∈L'):FPE B p t L' ma:=by
 intro S σ H F os Q x ns r hp e k
 refine h S σ H F os Q x ns r hp e fun v H' F' o a r' va fr=>k v H' F' o a r' (va.sub (orF_sub (fun _ h=>h) hs) fun b hb z=>?_) fr
 rcases z with z | ⟨i,_,z⟩
 ·exact (va.alive hb).2.1 (.inl z)
 ·exact (r.alive z).1 (fr b hb)
theorem js_setP (i:Nat) {x:Str} {p1:Pos} {L':List Nat} (hnd:∀ j,(Xs j).N.Nodup) (hx:∀ j,Loc (Xs j).env.scope x) (he:JPE Xs B p e L ma) (hi:∀ j,(Xs j).N[i]? = some x:=by intro _; rfl) (hs:∀ j,swapsWith e (some (.Name x p1)) pos.line (Xs j).env=pure false:=by intro _; rfl)
  (hf:∀ j,(Xs j).fn x=true∨(Xs j).env.scope.names.lookup x=some .local:=by intro _; first | exact .inl rfl | exact .inr rfl) (hl:(L.all fun i=>L'.contains i)=true:=by rfl):JS Xs B (.Assign [.Name x p1] e pos) (mSetP p i L' ma):=
 let ⟨_,q,f⟩:=he.ex; ⟨⟨_,fun j=>ps_set (hnd j) (hi j) (hx j) (q j) (hs j) (hf j),fs_setP (f.wk (sub_dec hl))⟩⟩
theorem js_asgP {tg:Expr} {g1:D→FSt→Option FSt} {L':List Nat} (he:JPE Xs B p e L ma) (hg:JG Xs B tg g1) (hs:∀ j,swapsWithSole [tg] e pos.line (Xs j).env=pure false:=by intro _; rfl) (hw:∀ j,swappedStores [tg] e (Xs j).env=pure none:=by intro _; rfl)
  (h1:∀ j,(assignEach [tg] (Xs j).env).map (·.2)=[assign tg (Xs j).env]:=by intro _; rfl) (hl:(L.all fun i=>L'.contains i)=true:=by rfl):JS Xs B (.Assign [tg] e pos) (mAsgP p L' ma g1):=
 let ⟨_,q',f⟩:=he.ex; let ⟨_,q,g⟩:=hg.ex; ⟨⟨_,fun j=>ps_asg (q' j) (q j) (hs j) (hw j) (h1 j),fs_asgP (f.wk (sub_dec hl)) g⟩⟩
theorem js_putP (p : Nat) {x : Str} {p1 p2 : Pos} (he : JPE Xs B p e L ma) (hb : JD Xs B b Lb md) (hN : ∀ j, (Xs j).N[p]? = some x := by intro _; rfl) (hv : ∀ j, Vis (Xs j).env.scope x := by intro _; first | exact Or.inl rfl | exact Or.inr (Or.inl rfl) | exact Or.inr (Or.inr rfl))
    (hs : ∀ j, swapsWithSole [.Subscript (.Name x p1) b p2] e pos.line (Xs j).env = pure false := by intro _; rfl) (hw : ∀ j, swappedStores [.Subscript (.Name x p1) b p2] e (Xs j).env = pure none := by intro _; rfl)
    (h1 : ∀ j, (assignEach [.Subscript (.Name x p1) b p2] (Xs j).env).map (·.2) = [assign (.Subscript (.Name x p1) b p2) (Xs j).env] := by intro _; rfl)
    (ha : ∀ j v, assign (.Subscript (.Name x p1) b p2) (Xs j).env v = (do
      let ov ← holding [v] (eval (.Name x p1) (Xs j).env)
      let iv ← holding [v, ov] (eval b (Xs j).env)
      standAt p2
      holding [v, ov, iv] (setItem ov iv v)
      release [v, ov, iv] []) := by intro _ _; rfl) (hd : (x == ("__debug__" : Str)) = false := by decide) (hcd : (x == ("__classdict__" : Str)) = false := by decide) : JS Xs B (.Assign [.Subscript (.Name x p1) b p2] e pos) (mPutP p ma md) :=
  let ⟨_, q', f⟩ := he.ex; let ⟨_, q, g⟩ := hb.ex; ⟨⟨_, fun j => ps_asg (q' j) (pg_sub (pe_var (hN j) (hv j) hd hcd) (q j) set_list (ha j)) (hs j) (hw j) (h1 j), fs_putP f g⟩⟩
theorem js_ifP (hc:JPT Xs B p c mt) (ha:JB Xs B sts mf) (hb:JB Xs B ss mh):JS Xs B (.If c sts ss pos) (mIfP p mt mf mh):=let ⟨_,q,f⟩:=hc.ex; let ⟨_,p',f'⟩:=ha.ex; let ⟨_,q',g⟩:=hb.ex; ⟨⟨_,fun i=>ps_if (q i) (p' i) (q' i),fs_ifP f f' g⟩⟩
theorem js_appPop (jx:JX Xs P w K mg base k B) (i j:Nat) {x y:Str} {p1 p2 apos cpos apos2 cpos2:Pos} (he:JPE Xs B p e L ma) (hs1:∀ i,starEach [e] (Xs i).env=[(false,eval e (Xs i).env)]) (hNx:∀ n,(Xs n).N[i]? = some x:=by intro _; rfl) (hNy:∀ n,(Xs n).N[j]? = some y:=by intro _; rfl) (hvx:∀ j,Vis (Xs j).env.scope x:=by intro _; first | exact Or.inl rfl | exact Or.inr (Or.inl rfl) | exact Or.inr (Or.inr rfl)) (hvy:∀ j,Vis (Xs j).env.scope y:=by intro _; first | exact Or.inl rfl | exact Or.inr (Or.inl rfl) | exact Or.inr (Or.inr rfl))
  (hbase:∀ j,attributeBase (.Name x p1) "append" (Xs j).env (eval (.Name x p1) (Xs j).env)=eval (.Name x p1) (Xs j).env:=by intro _; rfl) (hbase2:∀ j,attributeBase (.Name y p2) "pop" (Xs j).env (eval (.Name y p2) (Xs j).env)=eval (.Name y p2) (Xs j).env:=by intro _; rfl)
  (hfew:∀ i,((backTo cpos (starEach [.Call (.Attribute (.Name y p2) "pop" apos2) [e] [] cpos2] (Xs i).env)).all (fun x=>!x.1)&&(backToKw cpos (keywordEach [] (Xs i).env)).all (fun x=>x.1.isSome)&&decide ([Expr.Call (.Attribute (.Name y p2) "pop" apos2) [e] [] cpos2].length+([]:List Keyword).length+(if ([]:List Keyword).isEmpty then 0 else 1) < 30))=true:=by intro _; rfl)
  (hfew2:∀ i,((backTo cpos2 (starEach [e] (Xs i).env)).all (fun x=>!x.1)&&(backToKw cpos2 (keywordEach [] (Xs i).env)).all (fun x=>x.1.isSome)&&decide ([e].length+([]:List Keyword).length+(if ([]:List Keyword).isEmpty then 0 else 1) < 30))=true:=by intro _; rfl)
  (hline:(apos.endLine==cpos.line)=true:=by rfl) (hline2:(apos2.endLine==cpos2.line)=true:=by rfl) (hs:∀ j,swapsWith (.Call (.Attribute (.Name x p1) "append" apos) [.Call (.Attribute (.Name y p2) "pop" apos2) [e] [] cpos2] [] cpos) none pos.line (Xs j).env=pure false:=by intro _; rfl)
  (hd:(x==("__debug__":Str))=false:=by decide) (hcd:(x==("__classdict__":Str))=false:=by decide) (hd2:(y==("__debug__":Str))=false:=by decide) (hcd2:(y==("__classdict__":Str))=false:=by decide):JS Xs B (.Expr (.Call (.Attribute (.Name x p1) "append" apos) [.Call (.Attribute (.Name y p2) "pop" apos2) [e] [] cpos2] [] cpos) pos) (mAppPop p i j ma):=
 let ⟨_,q,f⟩:=he.ex; ⟨⟨_,fun n=>ps_expr (pe_bmK (jx.k' n) PySem.F.plainAttrs_list PySem.F.slot_list_append PySem.F.type_list_append mt_append (pe_var (hNx n) (hvx n) hd hcd) (pa_cons (pe_bmK (jx.k' n) PySem.F.plainAttrs_list PySem.F.slot_list_pop PySem.F.type_list_pop mt_popAt (pe_var (hNy n) (hvy n) hd2 hcd2) (pa_cons (q n) pa_nil (hs1 n)) (hbase2 n) (hfew2 n) hline2 (hs1 n) rfl) pa_nil st_Call) (hbase n) (hfew n) hline st_Call rfl) (hs n),fs_appPop jx.bk f⟩⟩
theorem js2_of (h:JS Xs B st mf):JS2 Xs B st (mOf mf):=let ⟨_,q,f⟩:=h.ex; ⟨⟨_,q,fs2_of f⟩⟩
theorem js2_ret {L':List Nat} (h:JPE Xs B p e L ma) (hl:(L.all fun i=>L'.contains i)=true:=by rfl):JS2 Xs B (.Return (some e) pos) (mRet2 p L' ma):=let ⟨_,q,f⟩:=h.ex; ⟨⟨_,fun i=>ps_ret (q i),fs2_ret (f.wk (sub_dec hl))⟩⟩
theorem js2_retV (j:Nat) {x:Str} {p1:Pos} (hN:∀ i,(Xs i).N[j]? = some x:=by intro _; rfl) (hv:∀ j,Vis (Xs j).env.scope x:=by intro _; first | exact Or.inl rfl | exact Or.inr (Or.inl rfl) | exact Or.inr (Or.inr rfl)) (hd:(x==("__debug__":Str))=false:=by decide) (hcd:(x==("__classdict__":Str))=false:=by decide):JS2 Xs B (.Return (some (.Name x p1)) pos) (mRetV2 j):=
 ⟨⟨_,fun i=>ps_ret (pe_var (hN i) (hv i) hd hcd),fs2_retV j⟩⟩
theorem jb2_one (h:JS2 Xs B st m2f):JB2 Xs B [st] m2f:=let ⟨_,q,f⟩:=h.ex; ⟨⟨_,fun i=>pss_one (q i),f⟩⟩
theorem jb2_cons (h:JS2 Xs B st m2f) (h':JB2 Xs B sts m2h):JB2 Xs B (st :: sts) (mSeq2 m2f m2h):=let ⟨_,q',f⟩:=h.ex; let ⟨_,q,g⟩:=h'.ex; ⟨⟨_,fun i=>pss_cons (q' i) (q i),fs2_seq f g⟩⟩
end
section
variable {P:Program} {w:World} {K:W.Frag} {mg:Str→Option Value} {base:Heap} {x qual:Str} {st:Stmt} {f:Addr} {fd:FuncData} {N ps:List Str} {k:Nat} {B:Bk} {scope:Scope}
theorem Fun.okPJ {m:FSt→Fl2} (F:Fun K x qual st f fd) (S:FnScope N ps (defScope st)) (hK:B.K=K) (h:JX (JXs P w K mg base N k qual (defScope st) f) P w K mg base k B→JB2 (JXs P w K mg base N k qual (defScope st) f) B (defBody st) m):FnOk P w K mg base CX0 (k+1) f fd ps (SpP B ps.length (runP m ps.length N.length)):=
 F.okP S fun cdv A outer s H E hr=>let ⟨t,p,q⟩:=(h (jx_def hK)).ex; ⟨t,p ⟨cdv,A,outer,s,H,E,hr⟩,q⟩
theorem Fun.okTJ {m:FSt→Fl} (F:Fun K x qual st f fd) (S:FnScope N ps (defScope st)) (hK:B.K=K) (h:JX (JXs P w K mg base N k qual (defScope st) f) P w K mg base k B→JB (JXs P w K mg base N k qual (defScope st) f) B (defBody st) m):FnOk P w K mg base CX0 (k+1) f fd ps (SpT B ps.length (runT m ps.length N.length)):=
 F.okT S fun cdv A outer s H E hr=>let ⟨t,p,q⟩:=(h (jx_def hK)).ex; ⟨t,p ⟨cdv,A,outer,s,H,E,hr⟩,q⟩
end
abbrev FnP:=List Int→List D→Option (SV×List Int)
abbrev FnG:=List Int→List D→Option SV
abbrev Bd2:=FSt→Fl2
theorem runP_len' {m:FSt→Fl2} {n k:Nat} (ns:List Int) (ds:List D) (z:SV×List Int) (h:runP m n k ns ds=some z):ds.length+1=n:=runP_len h
theorem runT_len' {m:FSt→Fl} {n k:Nat} (ns:List Int) (ds:List D) (z:SV) (h:runT m n k ns ds=some z):ds.length+1=n:=runT_len h
end L2
namespace L2
open PySem PySem.Spec PyProof.Rows
@[simp] noncomputable def longs:Int→List Int→Bool
 | _,[]=>true
 | s,n :: ns=>cRngB n&&(cRngB (s+n)&&longs (s+n) ns)
@[simp] noncomputable def fSum:List D→Option SV
 | [.lst ds]=>(asInts ds).bind fun ns=>if longs 0 ns=true then some (.sh (.int ns.sum)) else none
 | _=>none
section
variable {B:Bk} {K:W.Frag}
@[simp] def mClear (i:Nat):FSt→Fl:=fun S=>match S[i]? with
 | some (some (.li xs))=>.nx (S.set i (some (.li [])))
 | _=>.bad
def FPO (B:Bk) (p:Nat) (t:TO) (m:FSt→Option (Option Int×List Int)):Prop:=
 ∀ (S:FSt) (σ:St) (H:Hp) (F:Addr→Prop) (os:Nat→List Addr) (Q:Option Int→Hp→Prop) (c:Option Int) (ns:List Int),Rep B H F σ S os→isPu S p→m S=some (c,ns)→
  (∀ H' F',AlO os p H F H' F'→Rep B H' F' σ (S.set p (some (.pu ns))) os→Q c H')→t σ H Q
@[simp] def mPAt (m:FSt→Option (SV×List Int)):FSt→Option (Option Int×List Int):=fun S=>(m S).bind fun y=>match y.1 with
 | .sh (.int i)=>some (some i,y.2)
 | _=>none
@[simp] def mPSl (p:Nat) (a:FSt→Option (SV×List Int)) (l h:FSt→Option (Option Int×List Int)):FSt→Option (SV×List Int):=fun S=>(a S).bind fun x=>(l (S.set p (some (.pu x.2)))).bind fun lo=>(h (S.set p (some (.pu lo.2)))).bind fun hi=>(oSl x.1.fr lo.1 hi.1).map fun z=>(z,hi.2)
variable {p:Nat} {te:TE} {L:List Nat} {ma:FSt→Option (SV×List Int)} {tl th:TO} {ml mh:FSt→Option (Option Int×List Int)}
theorem fpo_pure {t:TO} {m:FSt→Option (Option Int)} (h:FO B t m):FPO B p t (mPu p m):=by
 intro S σ H F os Q x ns r hp e k
 obtain ⟨e1,e2⟩:=pu_split hp e
 exact h S σ H F os Q x r e2 fun H' F' a r'=>k H' F' (a.o r hp) (by rw [e1]; exact r')
theorem fpo_some (h:FPE B p te L ma):FPO B p (tPart te) (mPAt ma):=by
 intro S σ H F os Q c ns r hp e k
 obtain ⟨y,e1,e2⟩:=bind1 e
 obtain ⟨x,ks⟩:=y
 dsimp only at e2
 split at e2
 case h_2=>cases e2
 case h_1=>
  rename_i i
  cases e2
  refine h S σ H F os _ _ _ r hp e1 fun v H' F' o a r' va fr=>?_
  obtain ⟨_,da⟩:=va
  cases da
  exact ⟨_,rfl,k H' F' a r'⟩
theorem sl_core {H:Hp} {G:Addr→Prop} {v:V} {d:D} {lo hi:Option Int} {z:SV} {Q:VK} (hK:B.K=K) (hg:∀ b,G b→H b≠none) (d3:DA B H G v d) (e:oSl d lo hi=some z) (fin:∀ v H' G' o,Al H G H' G'→VA B H' G' v z o→(∀ a,a∈o→H a=none)→Q v H'):rSlE K v lo hi H Q:=by
 subst hK
 unfold oSl at e
 split at e
 ·cases e
  cases d3 with
  | lst h q=>exact .inr (.inl ⟨_,_,rfl,h.sq,fun p hp=>new_li hg hp (q.cut _ _) fin⟩)
 ·cases e
  cases d3 with
  | fz h q=>exact .inr (.inl ⟨_,_,rfl,h.sq,fun p hp=>new_li hg hp (q.cut _ _) fin⟩)
 ·split at e
  ·cases e; cases d3
   exact .inl ⟨_,rfl,by assumption,fin _ H _ [] Al.refl ⟨rfl,.str _⟩ (by simp)⟩
  ·cases e
 ·split at e
  ·cases e
  ·rename_i hw
   cases e
   cases d3 with
   | tup h q=>exact .inr (.inr ⟨_,_,rfl,h.sq,by rw [q.length]; exact hw,fun p hp=>new_tup hp (q.cut _ _) fin⟩)
 ·split at e
  ·cases e
  ·rename_i hw
   cases e
   cases d3 with
   | kt h q=>exact .inr (.inr ⟨_,_,rfl,h.sq,by rw [q.length]; exact hw,fun p hp=>new_tup hp (q.cut _ _) fin⟩)
 ·cases e
theorem fpe_sl (hK:B.K=K) (he:FPE B p te L ma) (hl:FPO B p tl ml) (hh:FPO B p th mh) (na:p∉L):FPE B p (tSl (rSlE K) te tl th) L (mPSl p ma ml mh):=by
 intro S σ H F os Q z ns r hp e k
 obtain ⟨x,e1,e⟩:=bind1 e
 obtain ⟨lo,e2,e⟩:=bind1 e
 obtain ⟨hi,e3,e⟩:=bind1 e
 rw [Option.map_eq_some_iff] at e
 obtain ⟨z',ef,e⟩:=e
 cases e
 refine he.d r hp e1 fun v H1 F1 a1 r1 d1=>hl _ σ H1 F1 os _ lo.1 lo.2 r1 (hp.set' _) e2 fun H2 F2 a2 r2=>?_
 rw [set_set'] at r2
 refine hh _ σ H2 F2 os _ hi.1 hi.2 r2 (hp.set' _) e3 fun H3 F3 a3 r3=>?_
 rw [set_set'] at r3
 have d3:=(d1.laterP r1 a2 na fun _ h=>h).laterP r2 a3 na fun _ h=>h
 refine sl_core hK (r3.gd L) d3 ef fun u H4 G4 o a4 va fr=>?_
 obtain ⟨F4,al4,r4,va2⟩:=ve_split r3 a4 va fr
 exact k u H4 F4 o (((a1.trans a2).trans a3).trans (al4.o r3 (hp.set' _))) r4 va2 fun b e=>((a1.trans a2).trans a3).back (fr b e)
end
section
variable {ι:Type}
structure JPO (Xs:ι→Cx) (B:Bk) (p:Nat) (e:Option Expr) (m:FSt→Option (Option Int×List Int)):Prop where
 ex:∃ t,(∀ i,PO (Xs i) e t)∧FPO B p t m
variable {Xs:ι→Cx} {P:Program} {w:World} {K:W.Frag} {mg:Str→Option Value} {base:Heap} {k p:Nat} {B:Bk} {a b e o c:Expr} {es:List Expr} {L:List Nat} {ma:FSt→Option (SV×List Int)} {pos:Pos}
theorem jpo_pure {e:Option Expr} {m:FSt→Option (Option Int)} (h:JO Xs B e m):JPO Xs B p e (mPu p m):=let ⟨_,q,f⟩:=h.ex; ⟨⟨_,q,fpo_pure f⟩⟩
theorem jpo_some (h:JPE Xs B p e L ma):JPO Xs B p (some e) (mPAt ma):=let ⟨_,q,f⟩:=h.ex; ⟨⟨_,fun i=>po_some (q i),fpo_some f⟩⟩
theorem jp_sl (jx:JX Xs P w K mg base k B) {lo hi:Option Expr} {ml mh:FSt→Option (Option Int×List Int)} {p2:Pos} (h:JPE Xs B p e L ma) (hl:JPO Xs B p lo ml) (hh:JPO Xs B p hi mh) (na:p∉L:=by decide):JPE Xs B p (.Subscript e (.Slice lo hi none p2) pos) L (mPSl p ma ml mh):=
 let ⟨_,q,f⟩:=h.ex; let ⟨_,q',f'⟩:=hl.ex; let ⟨_,q2,f2⟩:=hh.ex; ⟨⟨_,fun i=>pe_slice (sl_seqE (jx.k' i)) (q i) (q' i) (q2 i),fpe_sl jx.bk f f' f2 na⟩⟩
end
end L2
namespace L2
open PySem PySem.Spec PyProof.Rows
section
variable {prog:Program} {w:World} {A:Around} {E:Value→Shared→Prop} {s:Shared}
abbrev IsItemIter (h:Heap) (it d:Addr) (i n ep:Nat) (own key val:Value):Prop:=
 h.get? it=some { cls:=.type "dict_itemiterator",dict:=none,data:=.fields #[own,.bool false,.ref d,rawInt i,rawInt n,rawInt ep,key,val],slots:=#[] }
theorem mroOf_itemiter:mroOf (.type "dict_itemiterator")=pure [.type "dict_itemiterator",.type "object"]:=by rw [mroOf_type]; kernel_rfl
theorem typeNameWhole_itemiter {it:Addr} {Q:String→Shared→Prop} (hT:s.TypeIs (.ref it) "dict_itemiterator") (h:Q "dict_itemiterator" s):wpAny (model prog w) A (typeNameOfWhole (.ref it)) Q E s:=by
 unfold typeNameOfWhole shownTypeOf
 refine wpAny_bind (wpAny_bind (wpAny_typeOf hT ?_))
 simp only [show (Value.type "dict_itemiterator"==Value.type "builtin_function_or_method")=false by decide,Bool.false_eq_true,if_false]
 refine wpAny_pure ?_
 have e:typeName (.type "dict_itemiterator")=pure "dict_itemiterator":=by unfold typeName; rw [find?_eq_fast]; kernel_rfl
 rw [show typeNameWhole (.type "dict_itemiterator")=typeName (.type "dict_itemiterator") from rfl,e]; exact wpAny_pure h
theorem isOneOf_itemiter {it:Addr} {types:List String} {Q:Bool→Shared→Prop} (hT:s.TypeIs (.ref it) "dict_itemiterator")
  (h:Q (types.any fun t=>[Value.type "dict_itemiterator",Value.type "object"].contains (.type t)) s):wpAny (model prog w) A (Builtin.Dict_items.isOneOf (.ref it) types) Q E s:=by
 unfold Builtin.Dict_items.isOneOf
 refine wpAny_bind (wpAny_typeOf hT ?_)
 rw [mroOf_itemiter]
 exact wpAny_bind (wpAny_pure (wpAny_pure h))
theorem items_next {it d : Addr} {i ep : Nat} {es : Array DictEntry} {k0 v0 : Value} {Q : Option Value → Shared → Prop} (hi : IsItemIter s.heap it d i es.size ep .none k0 v0) (r : RawD s.heap d es ep) (ne : d ≠ it) (lt : i < es.size)
    (q : ∀ h', IsItemIter h' it d (i + 1) es.size ep (rawInt s.heap.objs.size) es[i].key es[i].val → h'.get? s.heap.objs.size = some { cls := .type "tuple", data := .seq #[es[i].key, es[i].val] } → h'.objs.size = s.heap.objs.size + 1 →
      (∀ b o, b ≠ it → s.heap.get? b = some o → h'.get? b = some o) → Q (some (.ref s.heap.objs.size)) { s with heap := h' }) : wpAny (model prog w) A (pyNext (.ref it)) Q E s := by
  have hT : s.TypeIs (.ref it) "dict_itemiterator" := ⟨_, hi, rfl⟩
  obtain ⟨ob, e1, e2, e3⟩ := r
  unfold pyNext
  refine wpAny_bind (wpAny_attempt (wpAny_callSpecial?_slot (name := Str.ofString "__next__") hT F.slot_dict_itemiterator_next (wpAny_call_entry F.slot_dict_itemiterator_next hT F.entry_dict_itemiterator_next ?_ (F.args_dict_itemiterator_next_1 _))))
  refine wpAny_bind (wpAny_pure (wpAny_bind (wpAny_bind ?_)))
  refine wpAny_bind (typeNameWhole_itemiter hT (wpAny_pure ?_))
  refine wpAny_bind (wpAny_fieldsOf hi rfl ?_)
  simp only [show Builtin.Dict_items.ownsTuple "dict_itemiterator" = true by decide, if_true]
  show wpAny _ _ (if (Value.ref d == Value.none) = true then _ else _) _ _ s
  rw [if_neg (by exact Bool.false_ne_true : ¬ ((Value.ref d == Value.none) = true))]
  refine wpAny_bind (wpAny_pure (wpAny_bind (wpAny_dictEntries e1 e3 ?_))); rw [if_neg (by simp)]
  refine wpAny_bind (wpAny_pure (wpAny_bind (wpAny_dictEpoch e1 e3 ?_))); rw [if_neg (by simp)]
  refine wpAny_pure ?_; simp only [show ¬ ((i : Int) < 0) by omega, if_false, Int.toNat_natCast, Array.getElem?_eq_getElem lt]
  refine wpAny_bind ?_
  refine wpAny_bind (typeNameWhole_itemiter hT (wpAny_pure ?_))
  refine wpAny_bind (isOneOf_itemiter hT ?_)
  show wpAny _ _ (setField (.ref it) 3 (rawInt ((i : Int) + 1)) >>= _) _ _ s
  refine wpAny_bind (wpAny_setField_rec hi (by simp) fun h1 i1 sb1 => ?_)
  replace i1 : IsItemIter h1 it d (i + 1) es.size ep .none k0 v0 := i1
  refine wpAny_bind (wpAny_holding ?_)
  have hT1 : ({ s with heap := h1 } : Shared).TypeIs (.ref it) "dict_itemiterator" := ⟨_, i1, rfl⟩
  refine wpAny_bind (isOneOf_itemiter (s := { s with heap := h1 }) hT1 ?_)
  rw [show (["dict_keyiterator", "dict_reversekeyiterator"].any fun t => [Value.type "dict_itemiterator", Value.type "object"].contains (.type t)) = false by decide]
  show wpAny _ _ (Builtin.Dict_items.isOneOf (.ref it) ["dict_valueiterator", "dict_reversevalueiterator"] >>= _) _ _ _
  refine wpAny_bind (isOneOf_itemiter (s := { s with heap := h1 }) hT1 ?_)
  rw [show (["dict_valueiterator", "dict_reversevalueiterator"].any fun t => [Value.type "dict_itemiterator", Value.type "object"].contains (.type t)) = false by decide]
  show wpAny _ _ (Builtin.Dict_items.pairFromOwner (.ref it) 6 es[i].key es[i].val) _ _ _
  have sz1 : h1.objs.size = s.heap.objs.size := sb1.1
  unfold Builtin.Dict_items.pairFromOwner
  refine wpAny_bind (wpAny_newTuple ?_)
  have i2 : IsItemIter (h1.push { cls := .type "tuple", data := .seq #[es[i].key, es[i].val] }) it d (i + 1) es.size ep .none k0 v0 := Heap.get?_push_of_some _ i1
  have t2 : (h1.push { cls := .type "tuple", data := .seq #[es[i].key, es[i].val] }).get? s.heap.objs.size = some { cls := .type "tuple", data := .seq #[es[i].key, es[i].val] } := by rw [← sz1]; exact Heap.get?_push_size _ rfl
  have z2 : (h1.push { cls := .type "tuple", data := .seq #[es[i].key, es[i].val] }).objs.size = s.heap.objs.size + 1 := by rw [Heap.size_push, sz1]
  have k2 : ∀ b o, b ≠ it → s.heap.get? b = some o → (h1.push { cls := .type "tuple", data := .seq #[es[i].key, es[i].val] }).get? b = some o := fun b o hb e => Heap.get?_push_of_some _ (sb1.extBut b o hb e)
  show wpAny _ _ (Builtin.Dict_items.ownedTupleIsFree (.ref it) >>= _) _ _ _
  generalize h1.push { cls := .type "tuple", data := .seq #[es[i].key, es[i].val] } = h2 at i2 t2 z2 k2
  have elt : it < s.heap.objs.size := Heap.lt_size hi
  have net : s.heap.objs.size ≠ it := Nat.ne_of_gt elt
  rw [sz1]
  refine wpAny_bind ?_
  unfold Builtin.Dict_items.ownedTupleIsFree
  refine wpAny_bind (wpAny_field i2 rfl (x := .none) rfl (wpAny_pure ?_))
  simp only [if_true]
  refine wpAny_bind (wpAny_field i2 rfl (x := k0) rfl ?_)
  refine wpAny_bind (wpAny_field i2 rfl (x := v0) rfl ?_)
  refine wpAny_bind (wpAny_setField_rec i2 (by simp) fun h3 i3 sb3 => ?_)
  replace i3 : IsItemIter h3 it d (i + 1) es.size ep .none es[i].key v0 := i3
  refine wpAny_bind (wpAny_setField_rec i3 (by simp) fun h4 i4 sb4 => ?_)
  replace i4 : IsItemIter h4 it d (i + 1) es.size ep .none es[i].key es[i].val := i4
  refine wpAny_bind (wpAny_setField_rec i4 (by simp) fun h5 i5 sb5 => ?_)
  replace i5 : IsItemIter h5 it d (i + 1) es.size ep (rawInt s.heap.objs.size) es[i].key es[i].val := i5
  refine wpAny_bind (wpAny_setField_rec i5 (by simp) fun h6 i6 sb6 => ?_)
  replace i6 : IsItemIter h6 it d (i + 1) es.size ep (rawInt s.heap.objs.size) es[i].key es[i].val := i6
  have all : ∀ b o, b ≠ it → h2.get? b = some o → h6.get? b = some o := fun b o hb e => sb6.extBut b o hb (sb5.extBut b o hb (sb4.extBut b o hb (sb3.extBut b o hb e)))
  refine wpAny_bind (wpAny_letGo (wpAny_pure (wpAny_pure ⟨_, rfl, wpAny_pure (q h6 i6 (all _ _ net t2) ?_ fun b o hb e => all b o hb (k2 b o hb e))⟩)))
  rw [sb6.1, sb5.1, sb4.1, sb3.1, z2]
theorem items_end {it d:Addr} {i ep:Nat} {es:Array DictEntry} {k0 v0:Value} {Q:Option Value→Shared→Prop} (hh:A.handled=none) (hi:IsItemIter s.heap it d i es.size ep .none k0 v0) (ge:es.size≤i) (r:RawD s.heap d es ep)
  (q:∀ h',Heap.ExtBut it s.heap h'→Q none { s with heap:=h' }):wpAny (model prog w) A (pyNext (.ref it)) Q E s:=by
 have hT:s.TypeIs (.ref it) "dict_itemiterator":=⟨_,hi,rfl⟩
 obtain ⟨ob,e1,e2,e3⟩:=r
 unfold pyNext
 refine wpAny_bind (wpAny_attempt (wpAny_callSpecial?_slot (name:=Str.ofString "__next__") hT F.slot_dict_itemiterator_next (wpAny_call_entry F.slot_dict_itemiterator_next hT F.entry_dict_itemiterator_next ?_ (F.args_dict_itemiterator_next_1 _))))
 refine wpAny_bind (wpAny_pure (wpAny_bind (wpAny_bind ?_)))
 refine wpAny_bind (typeNameWhole_itemiter hT (wpAny_pure ?_))
 refine wpAny_bind (wpAny_fieldsOf hi rfl ?_)
 simp only [show Builtin.Dict_items.ownsTuple "dict_itemiterator"=true by decide,if_true]
 show wpAny _ _ (if (Value.ref d==Value.none)=true then _ else _) _ _ s
 rw [if_neg (by exact Bool.false_ne_true:¬ ((Value.ref d==Value.none)=true))]
 refine wpAny_bind (wpAny_pure (wpAny_bind (wpAny_dictEntries e1 e3 ?_))); rw [if_neg (by simp)]
 refine wpAny_bind (wpAny_pure (wpAny_bind (wpAny_dictEpoch e1 e3 ?_))); rw [if_neg (by simp)]
 refine wpAny_pure ?_; simp only [show ¬ ((i:Int) < 0) by omega,if_false,Int.toNat_natCast,Array.getElem?_eq_none ge]
 refine wpAny_bind ?_
 refine wpAny_bind (typeNameWhole_itemiter hT (wpAny_pure ?_))
 show wpAny _ _ (setField (.ref it) 2 .none >>= _) _ _ s
 refine wpAny_bind (wpAny_setField hi rfl (by simp) ?_)
 show wpAny _ _ (newExc (.type "StopIteration") [] >>= _) _ _ _; refine wpAny_bind ?_; simp only [newExc,newTuple]
 refine wpAny_bind (wpAny_newObj_type ?_ (by size_fits)); refine wpAny_bind (m:=firstArgMember _ _) (wpAny_of_eq (a:=Value.none) (by first | rfl | (simp only [firstArgMember]; rfl)) ?_)
 refine wpAny_newObj_type ?_ (by size_fits); simp only [raiseNew]; refine wpAny_bind (wpAny_handled ?_); rw [show A.in1.handled=none from hh]
 refine wpAny_bind (wpAny_pure (wpAny_throw ?_)); refine wpAny_bind (wpAny_isInstance (T:="StopIteration") (b:=true) ⟨_,Heap.get?_push_size _ rfl,rfl⟩ isSubtype_stop ?_)
 exact wpAny_pure (q _ (((Heap.SameBut.update ..).extBut.push _).push _))
theorem go_items {elts:List Expr} {x1} {pos:Pos} {it d a:Addr} {i n ep:Nat} {k v:Value} {Q:Unit→Shared→Prop} (hi:IsItemIter s.heap it d i n ep (rawInt a) k v)
  (hQ:∀ h',IsItemIter h' it d i n ep .none k v→Heap.SameBut it s.heap h'→Q () { s with heap:=h' }):wpAny (model prog w) A (letOwnedTupleGo (.Tuple elts x1 pos) (.ref it) (.ref a)) Q E s:=by
 unfold letOwnedTupleGo
 refine wpAny_bind (wpAny_load hi ?_)
 show wpAny _ A (if (["enumerate","zip","dict_itemiterator","dict_reverseitemiterator","odict_iterator","itertools.zip_longest","itertools.pairwise"].contains "dict_itemiterator"&&
   (#[rawInt a,.bool false,.ref d,rawInt i,rawInt n,rawInt ep,k,v]:Array Value)[0]?==some (rawInt a))=true then _ else _) Q E s
 rw [if_pos (by simp)]
 refine wpAny_bind (wpAny_rule ?_)
 show wpAny _ A (setField (.ref it) 0 .none) Q E s
 exact wpAny_setField_rec hi (by simp) fun h' he' hs'=>hQ h' he' hs'
theorem items_view {d:Addr} {es:Array DictEntry} {ep:Nat} {Q:Value→Shared→Prop} (nd:(d==sysModules)=false) (r:RawD s.heap d es ep)
  (q:Q (.ref s.heap.objs.size) { s with heap:=s.heap.push { cls:=.type "dict_items",data:=.fields #[.ref d] } }):wpAny (model prog w) A (call (.builtin "dict.items") [.ref d]) Q E s:=by
 obtain ⟨ob,e1,e2,e3⟩:=r
 have ty:s.TypeIs (.ref d) "dict":=⟨ob,e1,e2⟩
 refine wpAny_call_entry F.slot_dict_items ty F.entry_dict_items ?_ (F.args_dict_items_1 _)
 unfold Builtin.«dict.items» Builtin.Dict.noArgs
 refine wpAny_bind ?_
 refine wpAny_bind (wpAny_notOrdered_dict ty ?_)
 show wpAny _ _ (pure d) _ _ s
 refine wpAny_pure ?_
 unfold Builtin.Dict.showsAll
 rw [if_neg (by rw [nd]; exact Bool.false_ne_true)]
 refine wpAny_bind (wpAny_pure ?_)
 exact wpAny_bind (wpAny_newObj_type (wpAny_pure ⟨_,rfl,q⟩))
theorem items_iter {v d:Addr} {es:Array DictEntry} {ep:Nat} {Q:Value→Shared→Prop} (hv:s.heap.get? v=some { cls:=.type "dict_items",data:=.fields #[.ref d] }) (r:RawD s.heap d es ep)
  (q:Q (.ref s.heap.objs.size) { s with heap:=s.heap.push { cls:=.type "dict_itemiterator",data:=.fields #[.none,.bool false,.ref d,rawInt 0,rawInt es.size,rawInt ep,.none,.none] } }):wpAny (model prog w) A (pyIter (.ref v)) Q E s:=by
 have ty:s.TypeIs (.ref v) "dict_items":=⟨_,hv,rfl⟩
 obtain ⟨ob,e1,e2,e3⟩:=r
 refine wpAny_pyIter_slot ty F.slot_dict_items_iter (wpAny_call_entry F.slot_dict_items_iter ty F.entry_dict_items_iter ?_ (F.args_dict_items_iter_1 _))
 unfold Builtin.«dict_items.__iter__»
 refine wpAny_bind (wpAny_pure ?_)
 unfold Builtin.Dict_items.dictOf
 refine wpAny_bind ?_
 refine wpAny_bind (wpAny_field hv rfl (x:=.ref d) rfl ?_)
 refine wpAny_pure ?_
 unfold Builtin.Dict_items.newIterator
 refine wpAny_bind ?_
 refine wpAny_bind (wpAny_dictEntries e1 e3 ?_)
 refine wpAny_bind (wpAny_dictEpoch e1 e3 ?_)
 show wpAny _ _ (newObj (.type "dict_itemiterator") (.fields #[.none,.bool false,.ref d,rawInt 0,rawInt es.size,rawInt ep,.none,.none])) _ _ _
 exact wpAny_newObj_type (wpAny_pure ⟨_,rfl,"dict_itemiterator",_,⟨_,Heap.get?_push_size _ rfl,rfl⟩,F.slot_dict_itemiterator_next.lookup,q⟩)
end
section
variable {X:Cx} {pins:List (Addr×Obj)} {σ:St} {H:Hp} {s:Shared}
theorem Inv.freeze {b:Addr} {kvs:List (List Key×V)} (I:Inv X pins σ H s) (e:H b=some (.dT kvs)):∃ o,Inv X pins σ (upd H b (.frz o (.dT kvs))) s:=by
 obtain ⟨z,hd,xs,rel,o,es,ep,h1,h2⟩:=(show ObjOk X.prog X.w H s.heap b (.dT kvs) from I.hok b _ e)
 have nb:∀ {c:Addr} {u:HO},H c=some u→(∀ l,u≠.dT l)→c≠b:=fun {c u} q n z=>by rw [z,e] at q; cases q; exact n _ rfl
 have ow:∀ (a c:Addr),H c=some (.own a)→upd H b (.frz o (.dT kvs)) c=some (.own a):=fun a c q=>by rw [upd_ne (nb q (by simp))]; exact q
 have tu:∀ (c:Addr) (ys:List V),H c=some (.tup ys)→upd H b (.frz o (.dT kvs)) c=some (.tup ys):=fun c ys q=>by rw [upd_ne (nb q (by simp))]; exact q
 refine ⟨o,I.un (h':=s.heap) (t':=s.toks) ⟨fun c ob q n _ _=>q,fun c ob q n _ _=>⟨ob.slots,q⟩,fun c ob q n _=>?_,fun c ob q _=>⟨ob,q⟩,tu,fun c ob u q=>by rw [upd_ne (nb q (by simp))]; exact q,fun c ps q=>⟨#[],by rw [upd_ne (nb q (by simp)),q]; simp⟩⟩ fun c u q=>?_⟩
 ·rw [upd_ne]; exact n
  rintro rfl; rw [e] at n; cases n
 ·by_cases hc:c=b
  ·subst hc
   rw [upd_same] at q; cases q
   exact ⟨h1,(I.hok c _ e).stay (fun _ _ _ q=>q) (ow c) tu⟩
  ·rw [upd_ne hc] at q
   exact (I.hok c u q).stay (fun _ _ _ q=>q) (ow c) tu
def tZ (t:TE):TE:=fun σ H Q=>t σ H fun x H'=>∃ b kvs,x=.ref b∧H' b=some (.dT kvs)∧∀ o,Q x (upd H' b (.frz o (.dT kvs)))
theorem pe_frz {e:Expr} {t:TE} (h:PE X e t):PE X e (tZ t):=by
 intro pins s σ H Q I q
 refine thn (h pins s σ H _ I q) fun v s1 ⟨x,H1,I1,r1,b,kvs,ex,eb,q1⟩=>?_
 obtain ⟨o,I2⟩:=I1.freeze eb
 exact ⟨x,_,I2,r1,q1 o⟩
theorem Inv.turnLaid {h':Heap} {t':Nat} {it a:Addr} {o:HO} (I:Inv X pins σ H s) (k:∀ b o,b≠it→s.heap.get? b=some o→h'.get? b=some o) (ha:s.heap.objs.size≤a) (new:ObjOk X.prog X.w (upd H a o) h' a o) (hn:H it=none) (hL:it≠X.env.locals)
  (h1:it∈X.ex∨X.s₀.heap.objs.size≤it) (h2:∀ x c,X.env.cells.lookup x=some c→c≠it) (h3:∀ p∈X.pn++pins,p.1≠it):Inv X pins σ (upd H a o) { s with heap:=h',toks:=t' }:=by
 have hna:H a=none:=I.hok.fresh ha
 have nit:∀ b u,H b=some u→b≠it:=fun b u e z=>by rw [z,hn] at e; cases e
 have na:∀ b u,H b=some u→b≠a:=fun b u e z=>by rw [z,hna] at e; cases e
 have nold:∀ b o,s.heap.get? b=some o→b≠a:=fun b o e z=>by rw [z] at e; exact absurd (Heap.lt_size e) (Nat.not_lt.mpr ha)
 refine I.step (g':=s.gens) (d':=s.drawn) (ch:=[it]) (fun b hb=>?_) (fun b o _ _ hc e _=>k b o (fun z=>hc (by simp [z])) e) (fun b o _ _ hc e _=>⟨o.slots,k b o (fun z=>hc (by simp [z])) e⟩) (fun b o _ e n=>by rw [upd_ne (nold b o e)]; exact n)
  (fun b o hc e=>⟨o,k b o (fun z=>hc (by simp [z])) e⟩) (fun b xs e=>by rw [upd_ne (na b _ e)]; exact e) (fun b o u e=>by rw [upd_ne (na b _ e)]; exact e) (fun b ps e=>⟨#[],by rw [upd_ne (na b _ e),e]; simp⟩) (fun m hm=>?_) (fun b u e=>?_) I.bare
 ·have e:b=it:=by simpa using hb
  subst e
  exact ⟨h1,hL,h2,h3⟩
 ·obtain ⟨o,es,ep,ho,r⟩:=hm
  exact ⟨o,es,ep,k _ o (Ne.symm hL) ho,r⟩
 ·by_cases hb:b=a
  ·subst hb; rw [upd_same] at e; cases e; exact new
  ·rw [upd_ne hb] at e
   refine (I.hok b u e).stay (fun c v hc q=>k c v ?_ q) (fun c q=>by rw [upd_ne (na c _ q)]; exact q) fun c xs q=>by rw [upd_ne (na c _ q)]; exact q
   rcases hc with z | z
   ·rw [z]; exact nit b u e
   ·exact nit c _ z
end
theorem entry_itemiter_iter:entryFor table "dict_itemiterator.__iter__"=some Builtin.«dict_keyiterator.__iter__»:=entryFor_alias (id':="dict_keyiterator.__iter__") (by kernel_rfl) rfl (by decide +kernel) (by kernel_rfl)
theorem self_items {prog:Program} {w:World} {A:Around} {E:Value→Shared→Prop} {s:Shared} {it d:Addr} {i n ep:Nat} {k v:Value} {Q:Value→Shared→Prop} (hi:IsItemIter s.heap it d i n ep .none k v) (h:Q (.ref it) s):wpAny (model prog w) A (pyIter (.ref it)) Q E s:=by
 have hT:s.TypeIs (.ref it) "dict_itemiterator":=⟨_,hi,rfl⟩
 refine wpAny_pyIter_slot hT F.slot_dict_itemiterator_iter (wpAny_call_entry F.slot_dict_itemiterator_iter hT entry_itemiter_iter ?_ (F.args_dict_itemiterator_iter_1 _))
 show wpAny _ _ (ret (.ref it)) _ _ s
 exact wpAny_pure ⟨_,rfl,"dict_itemiterator",_,hT,F.slot_dict_itemiterator_next.lookup,h⟩
theorem paired_at {α β:Type} {F:α→β→Prop} {ts:List α} {ps:List β} (h:Paired F ts ps):∀ {i:Nat} {t:α},ts[i]? = some t→∃ q,ps[i]? = some q∧F t q:=by
 induction h with
 | nil=>intro i t e; simp at e
 | cons h _ ih=>
  intro i t e
  cases i with
  | zero=>simp at e; subst e; exact ⟨_,rfl,h⟩
  | succ i=>simpa using ih (by simpa using e)
def Itz (a:Addr) (o:Obj) (kvs:List (List Key×V)):It:=
 ⟨fun i H=>H a=some (.frz o (.dT kvs))∧i < kvs.length,fun i H x H'=>∃ t b k v,kvs[i]? = some (k,v)∧H b=some (.tup (k.map kV))∧H t=none∧x=.ref t∧H'=upd H t (.tup [.ref b,v]),fun i H=>H a=some (.frz o (.dT kvs))∧kvs.length≤i⟩
theorem turn_items {P:Program} {w:World} {K:W.Frag} {elts:List Expr} {x1} {pos:Pos} {o:Obj} {es:Array DictEntry} {ep:Nat} {kvs:List (List Key×V)} (a it:Addr) (ne:a≠it) (hd:o.data=.dict es ep) (hl:es.size=kvs.length) :
  Turn P w K (.Tuple elts x1 pos) (Itz a o kvs) [it] it (fun i h=>∃ k0 v0,IsItemIter h it a i es.size ep .none k0 v0) where
 mem:=by simp
 obj:=fun i h ⟨k0,v0,st⟩ b hb=>by
  have e:b=it:=by simpa using hb
  subst e
  exact ⟨_,st,fun v z=>by
   have z':Data.fields _=Data.cell v:=z
   cases z'⟩
 keep:=fun i h h' ⟨k0,v0,st⟩ k=>⟨k0,v0,k it (by simp) _ st⟩
 item:=by
  intro X hP hw hK hc i pins s σ H E I hf ⟨k0,v0,st⟩ hg
  subst hP hw hK
  obtain ⟨ga,lt⟩:=hg
  obtain ⟨f0,f1,f2,f3,f4,f5⟩:=hf it (by simp)
  obtain ⟨ho,z,hdm,ys,rel,o',es',ep',h1,h2,h3,h4,h5⟩:=(show ObjOk X.prog X.w H s.heap a (.frz o (.dT kvs)) from I.hok a _ ga)
  rw [ho] at h1; cases h1
  rw [hd] at h3; cases h3
  have lt':i < es.size:=by rw [hl]; exact lt
  have kl:kvs.length=ys.length:=Paired.length rel
  have hy:∃ y,ys[i]? = some y∧kvs[i]?.map (·.1)=some y.1∧H y.2.1=some (.tup (y.1.map kV))∧∃ v,kvs[i]? = some (y.1,v)∧RelV v y.2.2:=by
   obtain ⟨y,e1,e2⟩:=paired_at rel (i:=i) (t:=kvs[i]) (by simp [lt])
   obtain ⟨q1,q2,q3⟩:=e2
   refine ⟨y,e1,by simp [lt,q1],by rw [← q1]; exact q2,kvs[i].2,by rw [← q1]; simp [lt],q3⟩
  obtain ⟨y,e1,_,e3,v,e4,e5⟩:=hy
  have ee:es[i]=entryOfKey (tupleKind (mixKind X.prog X.w)) y:=by
   have:es.toList[i]? = some (entryOfKey (tupleKind (mixKind X.prog X.w)) y):=by rw [h4,List.getElem?_map,e1]; rfl
   simpa [lt'] using this
  have ek:es[i].key=.ref y.2.1:=by rw [ee]; rfl
  have ev:es[i].val=y.2.2:=by rw [ee]; rfl
  refine items_next st ⟨o,ho,h2.1,hd⟩ ne lt' fun h' i1 t1 z1 kk=>?_
  refine ⟨_,rfl,go_items (s:={ s with heap:=h' }) i1 fun h'' i2 sb=>?_⟩
  have ht:s.heap.objs.size≠it:=Nat.ne_of_gt (Heap.lt_size st)
  have k2:∀ b o,b≠it→s.heap.get? b=some o→h''.get? b=some o:=fun b o hb e=>sb.extBut b o hb (kk b o hb e)
  have t2:h''.get? s.heap.objs.size=some { cls:=.type "tuple",data:=.seq #[es[i].key,es[i].val] }:=sb.extBut _ _ ht t1
  have fr:H s.heap.objs.size=none:=I.hok.fresh (Nat.le_refl _)
  have new:ObjOk X.prog X.w (upd H s.heap.objs.size (.tup [.ref y.2.1,v])) h'' s.heap.objs.size (.tup [.ref y.2.1,v]):=by
   refine ⟨by rw [sizeLine_eq]; simp,[.ref y.2.1,y.2.2],.cons rfl (.cons e5 .nil),_,t2,rfl,0,?_⟩
   rw [ek,ev]
  have I2:=I.turnLaid (t':=s.toks) k2 (Nat.le_refl _) new f0 f1 f3 f4 f5
  refine ⟨.ref s.heap.objs.size,_,I2,rfl,⟨_,y.2.1,y.1,v,e4,e3,fr,rfl,rfl⟩,⟨_,_,i2⟩,fun b hb=>?_⟩
  have e:b=it:=by simpa using hb
  subst e
  rw [upd_ne (Ne.symm ht)]; exact f0
 done:=by
  intro X hP hw hK hc i pins s σ H E I hf ⟨k0,v0,st⟩ hg
  subst hP hw hK
  obtain ⟨ga,ge⟩:=hg
  obtain ⟨f0,f1,f2,f3,f4,f5⟩:=hf it (by simp)
  obtain ⟨ho,z,hdm,ys,rel,o',es',ep',h1,h2,h3,h4,h5⟩:=(show ObjOk X.prog X.w H s.heap a (.frz o (.dT kvs)) from I.hok a _ ga)
  exact items_end (I.ok.hd hc) st (by rw [hl]; exact ge) ⟨o,ho,by rw [ho] at h1; cases h1; exact h2.1,hd⟩ fun h' eb=>⟨rfl,I.turned (t':=s.toks) (fun b o hb e=>eb b o hb e) f0 f1 f3 f4 f5⟩
 self:=fun _ _ _ _ _ ⟨k0,v0,st⟩ h=>self_items st h
def iItems (td:TE):TI:=fun σ H R=>td σ H fun x H1=>∃ a o kvs,x=.ref a∧H1 a=some (.frz o (.dT kvs))∧R (Itz a o kvs) H1
section
variable {X:Cx} {o:Expr} {td:TE} {elts:List Expr} {x1:Nat} {pos apos cpos:Pos}
theorem pi_items (ho:PE X o td) (hbase:attributeBase o "items" X.env (eval o X.env)=eval o X.env:=by rfl) (hline:(apos.endLine==cpos.line)=true:=by rfl):PI X (.Tuple elts x1 pos) (.Call (.Attribute o "items" apos) [] [] cpos) (iItems td):=by
 intro pins s σ H R I h
 refine wpAny_Call_method0_late hbase hline (thn (ho pins s σ H _ I h) fun v s1 ⟨x,H1,I1,r1,a,ob,kvs,ex,ea,q⟩=>?_)
 subst ex
 cases r1
 obtain ⟨h0,z,hd,ys,rel,o',es,ep,h1,h2,h3,h4,h5⟩:=(show ObjOk X.prog X.w H1 s1.heap a (.frz ob (.dT kvs)) from I1.hok a _ ea)
 rw [h0] at h1; cases h1
 have ty:s1.TypeIs (.ref a) "dict":=⟨_,h0,h2.1⟩
 have hl:es.size=kvs.length:=by
  have e1:es.toList.length=ys.length:=by rw [h4,List.length_map]
  have e2:kvs.length=ys.length:=Paired.length rel
  rw [Array.length_toList] at e1
  omega
 refine ⟨"dict","dict.items",PySem.F.plainAttrs_dict,PySem.F.slot_dict_items,PySem.F.type_dict_items,ty,fun b e=>by cases e; exact ⟨_,h0,h2.2.1⟩,Calls.callWith_builtin rfl (PySem.evalArgs_none ?_)⟩
 refine items_view hd ⟨_,h0,h2.1,h3⟩ ?_
 have r2:RawD (s1.heap.push { cls:=.type "dict_items",data:=.fields #[.ref a] }) a es ep:=⟨_,Heap.get?_push_of_some _ h0,h2.1,h3⟩
 refine items_iter (s:={ s1 with heap:=s1.heap.push { cls:=.type "dict_items",data:=.fields #[.ref a] } }) (Heap.get?_push_size _ rfl) r2 ?_
 have na:a≠(s1.heap.push { cls:=.type "dict_items",data:=.fields #[.ref a] }).objs.size:=Nat.ne_of_lt (Heap.lt_size (Heap.get?_push_of_some _ h0))
 have I2:Inv X pins σ H1 { s1 with heap:=s1.heap.push { cls:=.type "dict_items",data:=.fields #[.ref a] },toks:=s1.toks }:=I1.kept fun b o e=>Heap.get?_push_of_some _ e
 refine ⟨_,[_],_,_,H1,rfl,I2.kept (t':=s1.toks) fun b o e=>Heap.get?_push_of_some _ e,turn_items a _ na h3 hl,⟨_,_,Heap.get?_push_size _ rfl⟩,fun b hb=>?_,q⟩
 have e:b=(s1.heap.push { cls:=.type "dict_items",data:=.fields #[.ref a] }).objs.size:=by simpa using hb
 subst e
 exact I2.fpOk (Nat.le_refl _) (I2.hok.fresh (Nat.le_refl _))
end
end L2
namespace L2
open PySem PySem.Spec PyProof.Rows
@[simp] def mZ (me:FSt→Option SV):FSt→Option D:=fun S=>(me S).bind fun x=>match x with
 | .dT kvs=>some (.dZ kvs)
 | _=>none
@[simp] def itemsZ:D→Option (List D)
 | .dZ kvs=>some (kvs.map fun kv=>.tup [.tup (kv.1.map kD),kv.2])
 | _=>none
@[simp] def mItems (md:FSt→Option D):FSt→Option (List D):=fun S=>(md S).bind itemsZ
section
variable {B:Bk} {t td:TE} {L:List Nat} {me:FSt→Option SV} {md:FSt→Option D}
theorem fd_frz (h:FE B t L me):FD B (tZ t) L (mZ me):=by
 intro S σ H F os Q d r e k
 obtain ⟨x,ex,e⟩:=bind1 e
 split at e
 case h_2=>cases e
 case h_1 kvs=>
  cases e
  refine h S σ H F os _ _ r ex fun v H' F' o al r' va fr=>?_
  obtain ⟨b,ks,rfl,rfl,nf,hh,ek,das⟩:=va
  refine ⟨b,ks,rfl,hh,fun ob=>?_⟩
  have hb:H b=none:=fr b (by simp)
  have nF':¬ F' b:=fun z=>nf (.inl z)
  have al2:Al H F (upd H' b (.frz ob (.dT ks))) (fun c=>F' c∨c=b):=by
   refine ⟨fun c u q=>by rw [upd_ne (ne_of_none q hb)]; exact al.same c u q,fun c z=>.inl (al.up c z),fun c z=>?_⟩
   rcases z with z | rfl
   ·have hc:c≠b:=by rintro rfl; exact nF' z
    rcases al.new c z with z | z | z
    ·exact .inl z
    ·exact .inr (.inl ⟨z.1,by rw [upd_ne hc]; exact z.2⟩)
    ·exact .inr (.inr z)
   ·exact .inr (.inl ⟨hb,by rw [upd_same]; simp⟩)
  refine k _ _ _ al2 (r.mono al2) (.dZ (.inl (.inr rfl)) upd_same ek (das.mono (fun c u f q=>?_) fun c z=>?_))
  ·rw [upd_ne]; exact q
   rintro rfl; exact nf f
  ·rcases z with z | z
   ·exact .inl (.inl z)
   ·exact .inr z
theorem walks_items {H:Hp} {G:Addr→Prop} {a:Addr} {o:Obj} {kvs:List (List Key×V)} {ds:List (List Key×D)} (f:G a) (h:H a=some (.frz o (.dT kvs))) (e:kvs.map (·.1)=ds.map (·.1)) (r:DAs B H G (kvs.map (·.2)) (ds.map (·.2))) :
  Walks B (Itz a o kvs) H G (ds.map fun kv=>.tup [.tup (kv.1.map kD),kv.2]):=by
 have hl:kvs.length=ds.length:=by have:=congrArg List.length e; simpa using this
 intro H2 F2 k up
 have h2:=k a _ f h
 refine ⟨fun i d q=>?_,fun i hi=>⟨h2,by rw [hl]; simpa using hi⟩⟩
 rw [List.getElem?_map] at q
 cases qd:ds[i]? with
 | none=>rw [qd] at q; cases q
 | some kd=>
  rw [qd] at q; cases q
  have li:i < ds.length:=(List.getElem?_eq_some_iff.mp qd).1
  refine ⟨⟨h2,by omega⟩,fun x H3 y=>?_⟩
  obtain ⟨t,b,kk,v,e1,e2,e3,rfl,rfl⟩:=y
  have ek:kk=kd.1:=by
   have:=congrArg (fun l=>l[i]?) e
   simp only [List.getElem?_map,e1,qd,Option.map_some,Option.some.injEq] at this
   exact this
  subst ek
  have dv:DA B H2 F2 v kd.2:=by
   obtain ⟨v',q1,q2⟩:=(r.mono k up).get (i:=i) (d:=kd.2) (by rw [List.getElem?_map,qd]; rfl)
   rw [List.getElem?_map,e1] at q1
   cases q1
   exact q2
  have nbt:b≠t:=by rintro rfl; rw [e3] at e2; cases e2
  refine ⟨fun c=>F2 c∨c=t∨c=b,⟨same_upd e3,fun _ z=>.inl z,fun c z=>?_⟩,.tup ⟨.inr (.inl rfl),upd_same⟩ (.cons (.tup ⟨.inr (.inr rfl),by rw [upd_ne nbt]; exact e2⟩ (kDs_da kd.1)) (.cons (dv.mono (fun c u _ q=>same_upd e3 c u q) fun _ z=>.inl z) .nil))⟩
  rcases z with z | rfl | rfl
  ·exact .inl z
  ·exact .inr (.inl ⟨e3,by rw [upd_same]; simp⟩)
  ·exact .inr (.inr ⟨_,e2⟩)
theorem fic_items (he:FD B td L md):FIc B (iItems td) L (mItems md):=by
 intro S σ H F os R its r e k
 obtain ⟨d,ed,ef⟩:=bind1 e
 cases d with
 | dZ ds=>
  cases ef
  refine he S σ H F os _ _ r ed fun v H' F' al r' da=>?_
  cases da with
  | dZ f h ek rr=>exact ⟨_,_,_,rfl,h,k _ H' F' al r' (walks_items f h ek rr)⟩
 | _=>cases ef
end
section
variable {X:Cx} {pins:List (Addr×Obj)} {σ:St} {H:Hp} {s:Shared}
theorem Inv.turnLaidL {h':Heap} {t':Nat} {ch:List Addr} {a:Addr} {o:HO} (I:Inv X pins σ H s) (k:∀ b o,b∉ch→s.heap.get? b=some o→h'.get? b=some o) (ha:s.heap.objs.size≤a) (new:ObjOk X.prog X.w (upd H a o) h' a o) (hc:∀ b∈ch,FpOk X pins H b):Inv X pins σ (upd H a o) { s with heap:=h',toks:=t' }:=by
 have hna:H a=none:=I.hok.fresh ha
 have nit:∀ b u,H b=some u→b∉ch:=fun b u e z=>by rw [(hc b z).1] at e; cases e
 have na:∀ b u,H b=some u→b≠a:=fun b u e z=>by rw [z,hna] at e; cases e
 have nold:∀ b o,s.heap.get? b=some o→b≠a:=fun b o e z=>by rw [z] at e; exact absurd (Heap.lt_size e) (Nat.not_lt.mpr ha)
 refine I.step (g':=s.gens) (d':=s.drawn) (ch:=ch) (fun b hb=>⟨(hc b hb).2.2.2.1,(hc b hb).2.1,(hc b hb).2.2.2.2.1,(hc b hb).2.2.2.2.2⟩) (fun b o _ _ hc e _=>k b o hc e) (fun b o _ _ hc e _=>⟨o.slots,k b o hc e⟩) (fun b o _ e n=>by rw [upd_ne (nold b o e)]; exact n)
  (fun b o hc e=>⟨o,k b o hc e⟩) (fun b xs e=>by rw [upd_ne (na b _ e)]; exact e) (fun b o u e=>by rw [upd_ne (na b _ e)]; exact e) (fun b ps e=>⟨#[],by rw [upd_ne (na b _ e),e]; simp⟩) (fun m hm=>?_) (fun b u e=>?_) I.bare
 ·obtain ⟨o,es,ep,ho,r⟩:=hm
  exact ⟨o,es,ep,k _ o (fun z=>(hc _ z).2.1 rfl) ho,r⟩
 ·by_cases hb:b=a
  ·subst hb; rw [upd_same] at e; cases e; exact new
  ·rw [upd_ne hb] at e
   refine (I.hok b u e).stay (fun c v hc q=>k c v ?_ q) (fun c q=>by rw [upd_ne (na c _ q)]; exact q) fun c xs q=>by rw [upd_ne (na c _ q)]; exact q
   rcases hc with z | z
   ·rw [z]; exact nit b u e
   ·exact nit c _ z
end
def Ite (K:W.Frag) (a:Addr):It:=
 ⟨fun i H=>∃ xs x,SqL K H a xs∧xs[i]? = some x,fun i H x H'=>∃ t y,(∀ xs,SqL K H a xs→xs[i]? = some y)∧H t=none∧x=.ref t∧H'=upd H t (.tup [.int (i:Nat),y]),fun i H=>∃ xs,SqL K H a xs∧xs.length≤i⟩
theorem turn_enum {P:Program} {w:World} {K:W.Frag} {elts:List Expr} {x1} {pos:Pos} (a it e:Addr) (ne:e≠it) (nl:e≠a) (nl2:it≠a):Turn P w K (.Tuple elts x1 pos) (Ite K a) [e,it] e (fun i h=>∃ old,IsEnum h e it (i:Nat) old∧h.IsListIter it a i) where
 mem:=by simp
 obj:=fun i h ⟨old,s1,s2⟩ b hb=>by
  rcases List.mem_cons.mp hb with rfl | hb
  ·exact ⟨_,s1,fun v z=>by
    have z':Data.fields _=Data.cell v:=z
    cases z'⟩
  ·have e:b=it:=by simpa using hb
   subst e
   obtain ⟨o,e,c,d⟩:=s2
   exact ⟨o,e,fun v z=>by rw [d] at z; cases z⟩
 keep:=fun i h h' ⟨old,s1,s2⟩ k=>⟨old,k e (by simp) _ s1,s2.at fun o q=>k it (by simp) o q⟩
 item:=by
  intro X hP hw hK hc i pins s σ H E I hf ⟨old,s1,s2⟩ hg
  subst hP hw hK
  obtain ⟨xs,x,hq,hx⟩:=hg
  obtain ⟨its,rv,p,hz⟩:=I.list hq
  obtain ⟨u,hu,ru⟩:=rv.get hx
  refine wpAny_pyNext_enum_item s1 s2 p.isList (x:=u) (by simpa using hu) ne fun h' o1 l1 t1 z1 kk=>?_
  refine ⟨_,rfl,wpAny_letOwnedTupleGo_enum (s:={ s with heap:=h',toks:=s.toks+1 }) o1 fun h'' e2 sb=>?_⟩
  have hte:s.heap.objs.size≠e:=Nat.ne_of_gt (Heap.lt_size s1)
  obtain ⟨oi,hoi,_⟩:=id s2
  have hti:s.heap.objs.size≠it:=Nat.ne_of_gt (Heap.lt_size hoi)
  have fr:H s.heap.objs.size=none:=I.hok.fresh (Nat.le_refl _)
  have k2:∀ b o,b∉[e,it]→s.heap.get? b=some o→h''.get? b=some o:=fun b o hb q=>by
   have n1:b≠e:=fun z=>hb (by simp [z])
   have n2:b≠it:=fun z=>hb (by simp [z])
   exact sb.extBut b o n1 (kk b o n1 n2 q)
  have t2:h''.get? s.heap.objs.size=some { cls:=.type "tuple",data:=.seq #[.int i s.toks,u] }:=sb.extBut _ _ hte t1
  have new:ObjOk X.prog X.w (upd H s.heap.objs.size (.tup [.int (i:Nat),x])) h'' s.heap.objs.size (.tup [.int (i:Nat),x]):=
   ⟨by rw [sizeLine_eq]; simp,[.int i s.toks,u],.cons ⟨_,rfl⟩ (.cons ru .nil),_,t2,rfl,0,rfl⟩
  have I2:=I.turnLaidL (t':=s.toks+1) k2 (Nat.le_refl _) new hf
  have l2:h''.IsListIter it a (i+1):=l1.extBut sb.extBut (Ne.symm ne)
  refine ⟨.ref s.heap.objs.size,_,I2,rfl,⟨_,x,fun ys hy=>by rw [I.list_inj hy hq]; exact hx,fr,rfl,rfl⟩,⟨_,by simpa using e2,l2⟩,fun b hb=>?_⟩
  rcases List.mem_cons.mp hb with rfl | hb
  ·rw [upd_ne (Ne.symm hte)]; exact (hf _ (by simp)).1
  ·have q:b=it:=by simpa using hb
   subst q
   rw [upd_ne (Ne.symm hti)]; exact (hf _ (by simp)).1
 done:=by
  intro X hP hw hK hc i pins s σ H E I hf ⟨old,s1,s2⟩ hg
  subst hP hw hK
  obtain ⟨xs,hq,hx⟩:=hg
  obtain ⟨its,rv,p,hz⟩:=I.list hq
  obtain ⟨f0,f1,f2,f3,f4,f5⟩:=hf it (by simp)
  have hl:=rv.length
  exact wpAny_pyNext_enum_end (I.ok.hd hc) s1 s2 p.isList (by simp; omega) fun h' eb=>⟨rfl,I.turned (t':=s.toks) (fun b o hb e=>eb b o hb e) f0 f1 f3 f4 f5⟩
 self:=fun _ _ _ _ _ ⟨old,s1,s2⟩ h=>wpAny_pyIter_enum s1 h
def iEnum (K:W.Frag) (ta:TA):TI:=fun σ H R=>ta σ H fun vs H1=>∃ a xs,vs=[.ref a]∧SqL K H1 a xs∧R (Ite K a) H1
section
variable {X:Cx} {a:Expr} {ta:TA} {elts:List Expr} {x1:Nat} {pos p cpos:Pos}
theorem pi_enum (hg:Gl X "enumerate") (hm:X.mg "enumerate"=none) (hv:bootBuiltins "enumerate"=some (.type "enumerate")) (ha:PA X [a] ta) (hs:starEach [a] X.env=[(false,eval a X.env)]:=by rfl):PI X (.Tuple elts x1 pos) (.Call (.Name "enumerate" p) [a] [] cpos) (iEnum X.K ta):=by
 intro pins s σ H R I h
 refine Call_ (ld_blt I hg hm hv (PyProof.Rows.callWith_type1 (thn (ha cpos pins s σ H _ I h) fun us s1 ⟨vs,H1,I1,r1,q1⟩=>?_) hs rfl))
 obtain ⟨b,xs,e,hq,q⟩:=q1
 subst e
 cases r1 with
 | cons r rr=>
  cases rr
  cases r
  obtain ⟨its,rv,pl,hz⟩:=I1.list hq
  obtain ⟨ol,hol,_⟩:=id pl.isList
  have hlt:=Heap.lt_size hol
  refine call_enumerate_list pl.isList fun h' e1 l1 z1 kk=>?_
  refine wpAny_pyIter_enum (s:={ s1 with heap:=h' }) e1 ?_
  have I2:Inv X pins σ H1 { s1 with heap:=h',toks:=s1.toks }:=I1.kept fun c o e=>kk c o e
  refine ⟨_,[s1.heap.objs.size+1,s1.heap.objs.size],_,_,H1,rfl,I2,turn_enum b s1.heap.objs.size (s1.heap.objs.size+1) (Nat.succ_ne_self _) (Nat.ne_of_gt (Nat.lt_succ_of_lt hlt)) (Nat.ne_of_gt hlt),⟨_,by simpa using e1,l1⟩,fun c hb=>?_,q⟩
  have hc:s1.heap.objs.size≤c:=by
   rcases List.mem_cons.mp hb with rfl | hb
   ·exact Nat.le_succ _
   ·have:c=s1.heap.objs.size:=by simpa using hb
    rw [this]; exact Nat.le_refl _
  exact I1.fpOk hc (I1.hok.fresh hc)
end
@[simp] def itemsE:List D→Option (List D)
 | [.lst ds]=>some (ds.zipIdx.map fun p=>.tup [.int (p.2:Nat),p.1])
 | [.fz ds]=>some (ds.zipIdx.map fun p=>.tup [.int (p.2:Nat),p.1])
 | _=>none
@[simp] def mEnum (L:List Nat) (mr:FSt→Option (List D)):FSt→Option (List D):=fun S=>(mr S).bind fun ds=>if D.plains ds=true∨L.all (unow S)=true then itemsE ds else none
section
variable {B:Bk} {tr:TA} {L:List Nat} {mr:FSt→Option (List D)}
theorem walks_enum {H:Hp} {G:Addr→Prop} {a:Addr} {xs:List V} {ds:List D} (h:∀ H2,(∀ b o,G b→H b=some o→H2 b=some o)→SqL B.K H2 a xs) (q:DAs B H G xs ds):Walks B (Ite B.K a) H G (ds.zipIdx.map fun p=>.tup [.int (p.2:Nat),p.1]):=by
 intro H2 F2 k up
 have h2:=h H2 k
 have q2:=q.mono k up
 refine ⟨fun i d e=>?_,fun i hi=>⟨xs,h2,by rw [q.length]; simpa using hi⟩⟩
 rw [List.getElem?_map,List.getElem?_zipIdx] at e
 cases qd:ds[i]? with
 | none=>rw [qd] at e; cases e
 | some d0=>
  rw [qd] at e
  simp only [Option.map_some,Option.some.injEq,Nat.zero_add] at e
  subst e
  obtain ⟨v,e1,d1⟩:=q2.get qd
  refine ⟨⟨xs,v,h2,e1⟩,fun x H3 y=>?_⟩
  obtain ⟨t,y,hy,e3,rfl,rfl⟩:=y
  have e2:=hy xs h2
  rw [e1] at e2
  cases e2
  refine ⟨fun c=>F2 c∨c=t,al_fresh' e3,.tup ⟨.inr rfl,upd_same⟩ (.cons (.int _) (.cons (d1.mono (fun c u _ q=>same_upd e3 c u q) fun _ z=>.inl z) .nil))⟩
theorem fi_enum {K:W.Frag} (hK:B.K=K) (hr:FA B tr L mr):FI B (iEnum K tr) (mEnum L mr):=by
 subst hK
 intro S σ H F os R its r e k
 obtain ⟨ds,ed,ef⟩:=bind1 e
 split at ef
 case isFalse=>cases ef
 case isTrue c=>
  refine hr S σ H F os _ ds r ed fun vs H' F' al r' das=>?_
  have toF:DAs B H' F' vs ds:=by
   rcases c with c | c
   ·exact das.toF r' c
   ·refine das.mono (fun _ _ _ e=>e) fun b z=>?_
    rcases z with z | ⟨i,hi,z⟩
    ·exact z
    ·obtain ⟨x,v,e1,e2,va⟩:=r'.own z
     have hu:=List.all_eq_true.mp c i hi
     unfold unow at hu
     rw [e1] at hu
     cases x with
     | sh d=>rw [va.1] at z; simp at z
     | _=>cases hu
  unfold itemsE at ef
  split at ef
  ·cases ef
   obtain ⟨v,rfl,d⟩:=toF.one
   cases d with
   | lst h q=>exact ⟨_,_,rfl,h.sq,k _ H' F' al r' (walks_enum (fun H2 kk=>.inl (.inl (kk _ _ h.1 h.2))) q)⟩
  ·cases ef
   obtain ⟨v,rfl,d⟩:=toF.one
   cases d with
   | fz h q=>exact ⟨_,_,rfl,h.sq,k _ H' F' al r' (walks_enum (fun H2 kk=>(h.keep kk fun _ z=>z).sq) q)⟩
  ·cases ef
end
section
variable {ι:Type} {Xs:ι→Cx} {P:Program} {w:World} {K:W.Frag} {mg:Str→Option Value} {base:Heap} {k:Nat} {B:Bk} {a e o:Expr} {L:List Nat} {me:FSt→Option SV} {md:FSt→Option D} {mr:FSt→Option (List D)}
theorem j_frz (h:JE Xs B e L me):JD Xs B e L (mZ me):=let ⟨_,p,f⟩:=h.ex; ⟨⟨_,fun i=>pe_frz (p i),fd_frz f⟩⟩
theorem jc_items {elts:List Expr} {x1:Nat} {pos apos cpos:Pos} (h:JD Xs B o L md) (hbase:∀ i,attributeBase o "items" (Xs i).env (eval o (Xs i).env)=eval o (Xs i).env:=by intro _; rfl) (hline:(apos.endLine==cpos.line)=true:=by rfl):JIc Xs B (.Tuple elts x1 pos) (.Call (.Attribute o "items" apos) [] [] cpos) L (mItems md):=
 let ⟨_,p,f⟩:=h.ex; ⟨⟨_,fun i=>pi_items (p i) (hbase i) hline,fic_items f⟩⟩
theorem ji_enum (jx:JX Xs P w K mg base k B) {elts:List Expr} {x1:Nat} {pos p cpos:Pos} (hm:mg "enumerate"=none) (hv:bootBuiltins "enumerate"=some (.type "enumerate")) (ha:JA Xs B [a] L mr) (hs:∀ i,starEach [a] (Xs i).env=[(false,eval a (Xs i).env)]:=by intro _; rfl) (hg:∀ i,Gl (Xs i) "enumerate":=by intro _; rfl):JI Xs B (.Tuple elts x1 pos) (.Call (.Name "enumerate" p) [a] [] cpos) (mEnum L mr):=
 let ⟨_,q,f⟩:=ha.ex; ⟨⟨_,fun i=>by have:=pi_enum (X:=Xs i) (elts:=elts) (x1:=x1) (pos:=pos) (p:=p) (cpos:=cpos) (hg i) (jx.m i▸hm) hv (q i) (hs i); rw [jx.k' i] at this; exact this,fi_enum jx.bk f⟩⟩
end
end L2
namespace M1
open PySem L2
def codes:List Nat:=[97,98,99,100,101,102,103,104,105,106,107,108,109,110,111,112,113,114,115,116,117,118,119,120,121,122]
theorem letters_codes:(Str.ofString "abcdefghijklmnopqrstuvwxyz").cps.toList=codes:=by decide +kernel
theorem letters_len:(Str.ofString "abcdefghijklmnopqrstuvwxyz").length=26:=by decide +kernel
def inL (c:Nat):Bool:=!(Builtin.Str.occurrences (Str.ofString "abcdefghijklmnopqrstuvwxyz") ⟨#[c]⟩ 0 (Str.ofString "abcdefghijklmnopqrstuvwxyz").length 1).isEmpty
theorem inL_codes:∀ c∈codes,inL c=true:=by decide +kernel
theorem small_codes:∀ c∈codes,c < 128:=by decide
theorem codes_nodup:codes.Nodup:=by decide
structure Good (z:Str):Prop where
 lo:1≤z.length
 hi:z.length≤6
 all:∀ c∈z.cps.toList,c∈codes
theorem Good.ok {z:Str} (g:Good z):PyData.strOk z=true:=by
 unfold PyData.strOk
 rw [← Array.all_toList,List.all_eq_true]
 intro c hc
 have:=small_codes c (g.all c hc)
 exact decide_eq_true (by omega)
theorem append_cps (a b:Str):(a++b).cps.toList=a.cps.toList++b.cps.toList:=by
 show (a.cps++b.cps).toList=_
 simp
theorem append_len (a b:Str):(a++b).length=a.length+b.length:=by
 show (a.cps++b.cps).size=a.cps.size+b.cps.size
 simp
theorem join_cps (ys:List Str):(Txt.join "" ys).cps.toList=ys.flatMap fun y=>y.cps.toList:=by
 show (Builtin.Str.glued "" ys).cps.toList=_
 rw [StrLaws.glued_eq_join]
 have e0:("":Str).cps.toList=[]:=by decide +kernel
 induction ys with
 | nil=>rfl
 | cons y r ih=>
  cases r with
  | nil=>simp [Str.join]
  | cons z r=>
   rw [show Str.join "" (y :: z :: r)=y++("":Str)++Str.join "" (z :: r) from rfl,append_cps,append_cps,ih,e0]
   simp
theorem mk_good {b1 b2:Str} {c:Nat} (h1:∀ x∈b1.cps.toList,x∈codes) (h2:∀ x∈b2.cps.toList,x∈codes) (hc:c∈codes) (hl:b1.length+b2.length≤5):Good (b1++(⟨#[c]⟩:Str)++b2):=by
 have e1:((⟨#[c]⟩:Str)).length=1:=rfl
 refine ⟨by rw [append_len,append_len,e1]; omega,by rw [append_len,append_len,e1]; omega,fun x hx=>?_⟩
 rw [append_cps,append_cps] at hx
 rcases List.mem_append.mp hx with hx | hx
 ·rcases List.mem_append.mp hx with hx | hx
  ·exact h1 x hx
  ·have:x=c:=by simpa using hx
   rw [this]; exact hc
 ·exact h2 x hx
theorem mk_inj {b1 b2:Str} {c d:Nat} (h:b1++(⟨#[c]⟩:Str)++b2=b1++(⟨#[d]⟩:Str)++b2):c=d:=by
 have e:=congrArg (fun z:Str=>z.cps.toList) h
 simp only [append_cps] at e
 have e2:=List.append_cancel_right e
 have e3:=List.append_cancel_left e2
 simpa using e3
theorem nodup_le {α:Type} [DecidableEq α]:∀ {xs ys:List α},xs.Nodup→(∀ x∈xs,x∈ys)→xs.length≤ys.length
 | [],ys,_,_=>Nat.zero_le _
 | x :: xs,ys,nd,h=>by
  obtain ⟨n1,n2⟩:=List.nodup_cons.mp nd
  have hx:x∈ys:=h x List.mem_cons_self
  have ih:=nodup_le (xs:=xs) (ys:=ys.erase x) n2 fun y hy=>by
   have hne:y≠x:=fun e=>n1 (e▸hy)
   exact (List.mem_erase_of_ne hne).mpr (h y (List.mem_cons_of_mem _ hy))
  rw [List.length_erase_of_mem hx] at ih
  have:0 < ys.length:=List.length_pos_of_mem hx
  rw [List.length_cons]
  omega
theorem nodup_map_on {α β:Type} {f:α→β}:∀ {l:List α},(∀ x,x∈l→∀ y,y∈l→f x=f y→x=y)→l.Nodup→(l.map f).Nodup
 | [],_,_=>List.nodup_nil
 | a :: l,h,nd=>by
  obtain ⟨n1,n2⟩:=List.nodup_cons.mp nd
  refine List.nodup_cons.mpr ⟨fun m=>?_,nodup_map_on (fun x hx y hy=>h x (List.mem_cons_of_mem _ hx) y (List.mem_cons_of_mem _ hy)) n2⟩
  obtain ⟨b,hb,e⟩:=List.mem_map.mp m
  exact n1 (h b (List.mem_cons_of_mem _ hb) a List.mem_cons_self e▸hb)
theorem erase_perm {α:Type}:∀ {xs:List α} {k:Nat} {y:α},xs[k]? = some y→(y :: xs.eraseIdx k).Perm xs
 | x :: xs,0,y,h=>by simp at h; subst h; simp
 | x :: xs,k+1,y,h=>by
  have ih:=erase_perm (xs:=xs) (k:=k) (y:=y) (by simpa using h)
  rw [List.eraseIdx_cons_succ]
  exact (List.Perm.swap x y _).trans (ih.cons x)
theorem len_erase1 {α:Type} {xs:List α} {k:Nat} (h:k < xs.length):(xs.eraseIdx k).length+1=xs.length:=by
 rw [List.length_eraseIdx_of_lt h]; omega
inductive Reach (ps:List (Str×Str)):Str→Str→Prop
 | refl (r:Str):Reach ps r r
 | step {x y r:Str} (h:(x,y)∈ps) (t:Reach ps y r):Reach ps x r
theorem Reach.rank {ps:List (Str×Str)} {rk:Str→Nat} (h:∀ p∈ps,rk p.1 < rk p.2) {x r:Str} (t:Reach ps x r):rk x≤rk r:=by
 induction t with
 | refl r=>exact Nat.le_refl _
 | step a _ ih=>exact Nat.le_trans (Nat.le_of_lt (h _ a)) ih
theorem reach_closed {ps:List (Str×Str)} {fs:List Str} {r:Str} (h0:r∈fs) (h1:∀ x∈fs,Reach ps x r) (h2:∀ x y,(x,y)∈ps→y∈fs→x∈fs) (x:Str):x∈fs↔Reach ps x r:=by
 constructor
 ·exact h1 x
 ·intro t
  induction t with
  | refl r=>exact h0
  | step a _ ih=>exact h2 _ _ a (ih h0 h1)
structure Valid (F R:List Str) (ps:List (Str×Str)):Prop where
 f1:1≤F.length
 f4:F.length≤4
 r1:1≤R.length
 r6:R.length≤6
 fr:F.length*R.length≤12
 fn:F.Nodup
 rn:R.Nodup
 fg:∀ z∈F,Good z
 rg:∀ z∈R,Good z
 pn:ps.Nodup
 pm:∀ p∈ps,p.1∈R∧p.2∈R
 p15:ps.length≤15
 rk:∃ rk:Str→Nat,∀ p∈ps,rk p.1 < rk p.2
theorem shaped_list {ds:List PyData} (h1:PyData.canLayAll0 ds=true) (h2:PyData.depthAll ds≤8):SeqAt.shaped (.list ds)=true:=by
 unfold SeqAt.shaped
 rw [show PyData.canLay0 (.list ds)=PyData.canLayAll0 ds from rfl,h1,Bool.true_and]
 exact decide_eq_true (by simp [PyData.depth]; omega)
theorem eqv_nil (ds:List PyData):PyData.eqv (.list ds) (.list [])=ds.isEmpty:=by
 cases ds <;> simp [PyData.eqv,PyData.eqvAll]
theorem seqIx {i:Int} {n:Nat} (h0:0≤i) (h1:i < n):seqIndex? i n=some i.toNat:=by
 have e:ixN n i=some i.toNat:=by
  unfold ixN
  rw [if_pos h0,if_pos h1]
 exact (ixN_seq e).1
theorem idxOf_get:∀ {l:List Str},l.Nodup→∀ {i:Nat} {z:Str},l[i]? = some z→l.idxOf z=i
 | [],_,i,z,h=>by simp at h
 | a :: l,nd,0,z,h=>by
  simp at h; subst h
  simp [List.idxOf_cons]
 | a :: l,nd,i+1,z,h=>by
  obtain ⟨n1,n2⟩:=List.nodup_cons.mp nd
  have h':l[i]? = some z:=by simpa using h
  have ih:=idxOf_get n2 h'
  have hz:z∈l:=List.mem_of_getElem? h'
  have hne:(a==z)=false:=by
   rw [beq_eq_false_iff_ne]
   exact fun e=>n1 (e▸hz)
  rw [List.idxOf_cons,hne]
  simp [ih]
def places:List (Nat×Nat):=(List.range 6).flatMap fun k=>(List.range k).map fun j=>(j,k)
theorem places_all {j k:Nat} (h1:j < k) (h2:k < 6):(j,k)∈places:=by
 unfold places
 exact List.mem_flatMap.mpr ⟨k,List.mem_range.mpr h2,List.mem_map.mpr ⟨j,List.mem_range.mpr h1,rfl⟩⟩
theorem places_len:places.length=15:=by decide
def pairOf (O:List Str) (i:Nat×Nat):Str×Str:=(O.getD i.1 ⟨#[]⟩,O.getD i.2 ⟨#[]⟩)
theorem getD_get {O:List Str} {i:Nat} (h:i < O.length):O[i]? = some (O.getD i ⟨#[]⟩):=by
 rw [List.getD_eq_getElem?_getD,List.getElem?_eq_getElem h]; rfl
theorem valid_of {F R O:List Str} {is:List (Nat×Nat)} {ps:List (Str×Str)} (f1:1≤F.length) (f4:F.length≤4) (r1:1≤R.length) (r6:R.length≤6) (fr:F.length*R.length≤12) (fn:F.Nodup) (rn:R.Nodup)
  (fg:∀ z∈F,Good z) (rg:∀ z∈R,Good z) (ho:O.Perm R) (nd:is.Nodup) (lt:∀ i∈is,i.1 < i.2∧i.2 < O.length) (hp:ps.Perm (is.map (pairOf O))):Valid F R ps:=by
 have on:O.Nodup:=ho.nodup_iff.mpr rn
 have ol:O.length=R.length:=ho.length_eq
 have g1:∀ i∈is,O[i.1]? = some (O.getD i.1 ⟨#[]⟩):=fun i hi=>getD_get (by have:=lt i hi; omega)
 have g2:∀ i∈is,O[i.2]? = some (O.getD i.2 ⟨#[]⟩):=fun i hi=>getD_get (lt i hi).2
 refine ⟨f1,f4,r1,r6,fr,fn,rn,fg,rg,?_,fun p h=>?_,?_,⟨fun z=>O.idxOf z,fun p h=>?_⟩⟩
 ·refine hp.nodup_iff.mpr (M1.nodup_map_on ?_ nd)
  intro x hx y hy e
  obtain ⟨e1,e2⟩:=Prod.mk.inj e
  have a1:=idxOf_get on (g1 x hx)
  have a2:=idxOf_get on (g1 y hy)
  have b1:=idxOf_get on (g2 x hx)
  have b2:=idxOf_get on (g2 y hy)
  rw [e1] at a1
  rw [e2] at b1
  exact Prod.ext (a1.symm.trans a2) (b1.symm.trans b2)
 ·obtain ⟨i,hi,rfl⟩:=List.mem_map.mp (hp.mem_iff.mp h)
  exact ⟨ho.mem_iff.mp (List.mem_of_getElem? (g1 i hi)),ho.mem_iff.mp (List.mem_of_getElem? (g2 i hi))⟩
 ·rw [hp.length_eq,List.length_map,← places_len]
  exact nodup_le nd fun i hi=>by
   obtain ⟨h1,h2⟩:=lt i hi
   exact places_all h1 (by omega)
 ·obtain ⟨i,hi,rfl⟩:=List.mem_map.mp (hp.mem_iff.mp h)
  show O.idxOf (O.getD i.1 ⟨#[]⟩) < O.idxOf (O.getD i.2 ⟨#[]⟩)
  rw [idxOf_get on (g1 i hi),idxOf_get on (g2 i hi)]
  exact (lt i hi).1
end M1
namespace My
open PySem L2
theorem bAnd (a b:Nat):Builtin.bitAnd (a:Int) (b:Int)=((a&&&b:Nat):Int):=by
 simp [Builtin.bitAnd]
theorem bOr (a b:Nat):Builtin.bitOr (a:Int) (b:Int)=((a|||b:Nat):Int):=by
 have h1:¬ (0:Int)≤Builtin.bitNot a:=by unfold Builtin.bitNot; omega
 have h2:¬ (0:Int)≤Builtin.bitNot b:=by unfold Builtin.bitNot; omega
 have e1:Builtin.bitNot (Builtin.bitNot (a:Int))=a:=by unfold Builtin.bitNot; omega
 have e2:Builtin.bitNot (Builtin.bitNot (b:Int))=b:=by unfold Builtin.bitNot; omega
 have e3:∀ n:Nat,Builtin.bitNot (Builtin.bitNot (n:Int))=n:=fun n=>by unfold Builtin.bitNot; omega
 unfold Builtin.bitOr Builtin.bitAnd
 rw [decide_eq_false h1,decide_eq_false h2]
 simp only [e1,e2,e3,Int.toNat_natCast]
theorem int0 (n:Nat):((n:Int)==0)=(n==0):=by
 rw [Bool.eq_iff_iff]; simp
end My
namespace My
open PySem L2
theorem tb_eq {a b:Nat} (h:∀ i,a.testBit i=b.testBit i):a=b:=Nat.eq_of_testBit_eq h
def but (a b:Nat):Nat:=a^^^(a&&&b)
@[simp] theorem but_bit (a b i:Nat):(but a b).testBit i=(a.testBit i&&!b.testBit i):=by
 unfold but; rw [Nat.testBit_xor,Nat.testBit_and]
 cases a.testBit i <;> cases b.testBit i <;> rfl
theorem and_pow (x k:Nat):((x&&&2 ^ k)==0)=!x.testBit k:=by
 rw [Bool.eq_iff_iff,beq_iff_eq,Bool.not_eq_true']
 constructor
 ·intro h
  have:=congrArg (fun z=>z.testBit k) h
  simpa [Nat.testBit_and,Nat.testBit_two_pow] using this
 ·intro h
  refine tb_eq fun i=>?_
  rw [Nat.testBit_and,Nat.testBit_two_pow,Nat.zero_testBit]
  by_cases e:k=i
  ·subst e; simp [h]
  ·simp [e]
abbrev nD (n:Nat):D:=.int n
theorem rng0 (n:Nat) (h:n < 2 ^ 62):fRng [.int n]=some ((List.range n).map nD):=by
 simp only [fRng]
 rw [if_pos (cRng_of (by omega) (by omega))]
 simp [rngD,nD]
end My
namespace My
open PySem L2 M1
theorem sl_big':sizeLine=16777216:=sizeLine_eq
abbrev oD' (x:Option D):Option SV:=x.map SV.sh
abbrev Ok (z:Str):Prop:=PyData.strOk z=true
theorem shS {z:Str} (h:Ok z):SeqAt.shaped (.str z)=true:=shaped_str h
theorem shpS {z:Str} (h:Ok z):shp (.str z)=some (.str z):=by simp [shp,D.dat,shS h]
theorem eqS {a b:Str} (ha:Ok a) (hb:Ok b):oEq (.str a) (.str b)=some (.bl (a==b)):=by
 simp [oEq,shpS ha,shpS hb,PyData.eqv]
theorem datsS (zs:List Str):D.dats (zs.map D.str)=some (zs.map PyData.str):=by
 induction zs with
 | nil=>rfl
 | cons z zs ih=>simp [D.dats,D.dat,ih]
theorem layS {zs:List Str} (h:∀ z∈zs,Ok z):PyData.canLayAll0 (zs.map PyData.str)=true:=by
 induction zs with
 | nil=>rfl
 | cons z zs ih=>
  simp only [List.map_cons,PyData.canLayAll0,PyData.canLay0,Bool.and_eq_true]
  exact ⟨h z (by simp),ih fun x hx=>h x (by simp [hx])⟩
theorem depS (zs:List Str):PyData.depthAll (zs.map PyData.str)=0:=by
 induction zs with
 | nil=>rfl
 | cons z zs ih=>simp [PyData.depthAll,PyData.depth,ih]
theorem shLS {zs:List Str} (h:∀ z∈zs,Ok z):SeqAt.shaped (.list (zs.map PyData.str))=true:=shaped_list (layS h) (by rw [depS]; omega)
theorem anyS (z:Str) (zs:List Str):((zs.map PyData.str).any fun e=>PyData.eqv e (.str z))=decide (z∈zs):=by
 induction zs with
 | nil=>rfl
 | cons y ys ih=>
  rw [List.map_cons,List.any_cons,ih]
  show ((y==z)||decide (z∈ys))=_
  rw [Bool.eq_iff_iff]
  simp only [Bool.or_eq_true,beq_iff_eq,decide_eq_true_eq,List.mem_cons]
  constructor
  ·rintro (h | h)
   ·exact .inl h.symm
   ·exact .inr h
  ·rintro (h | h)
   ·exact .inl h.symm
   ·exact .inr h
theorem inLS {z:Str} {zs:List Str} (hz:Ok z) (h:∀ z∈zs,Ok z):inB (.str z) (.lst (zs.map D.str))=some (decide (z∈zs)):=by
 show (D.dats (zs.map D.str)).bind _=_
 rw [datsS]
 simp only [Option.bind_some,shpS hz,shLS h,if_true,anyS]
theorem inTS {z:Str} {zs:List Str} (hz:Ok z) (h:∀ z∈zs,Ok z):inB (.str z) (.tup (zs.map D.str))=some (decide (z∈zs)):=by
 show (D.dats (zs.map D.str)).bind _=_
 rw [datsS]
 simp only [Option.bind_some,shpS hz,shLS h,if_true,anyS]
abbrev Pr:=Str×Str
def pD (p:Pr):D:=.tup [.str p.1,.str p.2]
def pP (p:Pr):PyData:=.tuple [.str p.1,.str p.2]
abbrev OkP (p:Pr):Prop:=Ok p.1∧Ok p.2
theorem pD_dat (p:Pr):(pD p).dat=some (pP p):=rfl
theorem pD_dats (ps:List Pr):D.dats (ps.map pD)=some (ps.map pP):=by
 induction ps with
 | nil=>rfl
 | cons z zs ih=>simp [D.dats,pD_dat,ih]
theorem pP_lay {p:Pr} (h:OkP p):PyData.canLay0 (pP p)=true:=by
 have h1:=h.1
 have h2:=h.2
 simp [pP,PyData.canLay0,PyData.canLayAll0,h1,h2]
theorem pP_sh {p:Pr} (h:OkP p):SeqAt.shaped (pP p)=true:=by
 have:PyData.depth (pP p)=1:=rfl
 simp [SeqAt.shaped,pP_lay h,this]
theorem shpP {p:Pr} (h:OkP p):shp (pD p)=some (pP p):=by simp [shp,pD_dat,pP_sh h]
theorem eqvP (a b:Pr):PyData.eqv (pP a) (pP b)=decide (a=b):=by
 obtain ⟨a1,a2⟩:=a
 obtain ⟨b1,b2⟩:=b
 show ((a1==b1)&&((a2==b2)&&true))=_
 rw [Bool.eq_iff_iff]
 simp
theorem shLP {ps:List Pr} (h:∀ p∈ps,OkP p):SeqAt.shaped (.list (ps.map pP))=true:=by
 refine shaped_list ?_ ?_
 ·induction ps with
  | nil=>rfl
  | cons z zs ih=>
   simp only [List.map_cons,PyData.canLayAll0,Bool.and_eq_true]
   exact ⟨pP_lay (h z (by simp)),ih fun x hx=>h x (by simp [hx])⟩
 ·have:PyData.depthAll (ps.map pP)≤1:=by
   induction ps with
   | nil=>simp [PyData.depthAll]
   | cons z zs ih=>
    have hd:PyData.depth (pP z)=1:=rfl
    simp only [List.map_cons,PyData.depthAll,hd]
    have:=ih fun x hx=>h x (by simp [hx])
    omega
  omega
theorem anyP (z:Pr) (zs:List Pr):((zs.map pP).any fun e=>PyData.eqv e (pP z))=decide (z∈zs):=by
 induction zs with
 | nil=>rfl
 | cons y ys ih=>
  rw [List.map_cons,List.any_cons,ih,eqvP,Bool.eq_iff_iff]
  simp only [Bool.or_eq_true,decide_eq_true_eq,List.mem_cons]
  constructor
  ·rintro (h | h)
   ·exact .inl h.symm
   ·exact .inr h
  ·rintro (h | h)
   ·exact .inl h.symm
   ·exact .inr h
theorem inLP {z:Pr} {zs:List Pr} (hz:OkP z) (h:∀ z∈zs,OkP z):inB (pD z) (.lst (zs.map pD))=some (decide (z∈zs)):=by
 show (D.dats (zs.map pD)).bind _=_
 rw [pD_dats]
 simp only [Option.bind_some,shpP hz,shLP h,if_true,anyP]
theorem plainsS (zs:List Str):D.plains (zs.map D.str)=true:=by
 induction zs with
 | nil=>rfl
 | cons z zs ih=>simp [ih]
theorem plainsP (zs:List Pr):D.plains (zs.map pD)=true:=by
 induction zs with
 | nil=>rfl
 | cons z zs ih=>simp [pD,ih]
theorem while_step {mc:FSt→Option Bool} {mb:FSt→Fl} {S S1:FSt} {r:Fl} (h:mc S=some true) (h1:mb S=.nx S1) (h2:∃ n,whileM mc mb n S1=r):∃ n,whileM mc mb n S=r:=by
 obtain ⟨n,e⟩:=h2
 exact ⟨n+1,by simp [whileM,h,h1,e]⟩
theorem while_stop {mc:FSt→Option Bool} {mb:FSt→Fl} {S:FSt} (h:mc S=some false):∃ n,whileM mc mb n S=.nx S:=⟨1,by simp [whileM,h]⟩
theorem while_is {mc:FSt→Option Bool} {mb:FSt→Fl} {S S1:FSt} (h:∃ n,whileM mc mb n S=.nx S1):mWhile mc mb S=.nx S1:=by
 obtain ⟨n,e⟩:=h
 rw [mWhile_eq (n:=n) (by rw [e]; simp),e]
end My
namespace My
open PySem L2 M1
abbrev sI' (i:Int):Option SV:=some (.sh (.int i))
theorem compT {α:Type} (f:α→D) (rest:FSt) (me:FSt→Option D) (g:α→D):∀ (xs:List α),(∀ x∈xs,me (some (.sh (f x)) :: rest)=some (g x))→∀ y:Option D,compM (gN 0) mTrue me (xs.map f) (oD' y :: rest)=some (xs.map g)
 | [],_,_=>rfl
 | x :: xs,h,y=>by
  have ih:=compT f rest me g xs (fun z hz=>h z (by simp [hz])) (some (f x))
  simp only [oD',Option.map_some] at ih
  have hg:gN 0 (f x) (oD' y :: rest)=some (some (.sh (f x)) :: rest):=by simp
  rw [List.map_cons,compM,hg]
  simp [h x (by simp),ih]
theorem compF {α:Type} (f:α→D) (rest:FSt) (mt:FSt→Option Bool) (me:FSt→Option D) (c:α→Bool) (g:α→D):∀ (xs:List α),(∀ x∈xs,mt (some (.sh (f x)) :: rest)=some (c x)∧(c x=true→me (some (.sh (f x)) :: rest)=some (g x)))→
  ∀ y:Option D,compM (gN 0) mt me (xs.map f) (oD' y :: rest)=some ((xs.filter c).map g)
 | [],_,_=>rfl
 | x :: xs,h,y=>by
  have ih:=compF f rest mt me c g xs (fun z hz=>h z (by simp [hz])) (some (f x))
  simp only [oD',Option.map_some] at ih
  have hx:=h x (by simp)
  have hg:gN 0 (f x) (oD' y :: rest)=some (some (.sh (f x)) :: rest):=by simp
  rw [List.map_cons,compM,hg]
  simp only [Option.bind_some,hx.1]
  cases e:c x
  ·simp [e,ih]
  ·simp [e,ih,hx.2 e]
theorem atN {α:Type} {xs:List α} {k:Nat} {x:α} (h:xs[k]? = some x):atI xs (k:Int)=some x:=by
 have hl:=(List.getElem?_eq_some_iff.mp h).1
 simp [atI,ixN,hl,h]
 exact (List.getElem?_eq_some_iff.mp h).2
theorem mod_nat (a:Int) {b:Int} (h:0 < b):∃ v:Nat,a%b=v∧(v:Int) < b:=by
 obtain ⟨v,e⟩:=Int.eq_ofNat_of_zero_le (Int.emod_nonneg a (Int.ne_of_gt h))
 exact ⟨v,e,by have:=Int.emod_lt_of_pos a h; omega⟩
theorem seq_nx' {a b:FSt→Fl} {S S1:FSt} {r:Fl} (h:a S=.nx S1) (h2:b S1=r):mSeq a b S=r:=by
 unfold mSeq; rw [h]; exact h2
theorem shl_pow (n:Nat) (hn:n≤1000):oShl (.int 1) (.int n)=some (.int (2 ^ n:Nat)):=by
 have hp:cPowB 1 (n:Int)=true:=by
  rw [cPow_iff]
  exact ⟨by omega,by omega,by decide⟩
 simp [hp]
end My
namespace My
open PySem L2
def tab:Nat→Nat→Option Bool
 | _,_=>none
noncomputable section
def m_law_take : Bd2 :=
  (mSeq2 (mOf (mIf (mAnd (mTruth (m2 oEq (m2 oIx (mV 0) (mC (.int 0))) (mC (.int 0)))) (mTruth (m2 oGt (mFr (m1 fLen (mCons (mV 0) mNil))) (mC (.int 1)))))
    (mPutP 0 (mPop 0) (mC (.int 0)))
    mPass))
   (mSeq2 (mOf (mSet 2 [0, 1] (mSh (m2 oMod (m2 oIx (mV 0) (mC (.int 0))) (mV 1)))))
   (mSeq2 (mOf (mPutP 0 (mPu 0 (mSh (m2 oFdiv (m2 oIx (mV 0) (mC (.int 0))) (mV 1)))) (mC (.int 0))))
   (mRetV2 2))))
def f_law_take:FnP:=runP m_law_take 2 3
def M_law_names (f_law_take : FnP) : Bd2 :=
  (mSeq2 (mOf (mSet 2 [] (mSh (mC (.str "abcdefghijklmnopqrstuvwxyz")))))
   (mSeq2 (mOf (mSetP 0 3 [2] (mPBM 0 oJoin (mPu 0 (mSh (mC (.str "")))) (mPCons 0 (mCompP 1 [0, 2] 0 1 (mR1P (mPCons 0 (mCallP f_law_take (mPu 0 (mCons (mC (.int 6)) mNil))) (mPu 0 mNil))) (gN 0) (mPu 1 mTrue) (mP2 1 (oSh oIx) (mPu 1 (mSh (mV 2))) (mCallP f_law_take (mPu 1 (mCons (mC (.int 26)) mNil))))) (mPu 0 mNil)))))
   (mSeq2 (mOf (mSetP 0 4 [3] (mCallP f_law_take (mPu 0 (mCons (mFr (m2 oAdd (mFr (m1 fLen (mCons (mV 3) mNil))) (mC (.int 1)))) mNil)))))
   (mSeq2 (mOf (mSetP 0 5 [] (mCallP f_law_take (mPu 0 (mCons (mC (.int 26)) mNil)))))
   (mRet2 0 [2, 3, 4, 5] (mPu 0 (mComp 1 [2, 3, 4, 5] (mR1 (mCons (mV 1) mNil)) (gN 0) mTrue (mFr (m2 oAdd (mFr (m2 oAdd (mFr (mSl (mV 2) mNo (mAt (mV 3)))) (m2 oIx (mV 1) (m2 oMod (mFr (m2 oAdd (mV 4) (mV 0))) (mC (.int 26)))))) (mFr (mSl (mV 2) (mAt (mV 3)) mNo)))))))))))
def m_law_names:Bd2:=M_law_names f_law_take
def f_law_names:FnP:=runP m_law_names 2 6
def B_law_picked_0 (f_law_take:FnP):BdT:=
 (mAppPop 0 3 2 (mCallP f_law_take (mPu 0 (mCons (mFr (m1 fLen (mCons (mV 2) mNil))) mNil))))
def b_law_picked_0:BdT:=B_law_picked_0 f_law_take
def M_law_picked (b_law_picked_0 : BdT) : Bd2 :=
  (mSeq2 (mOf (mSet 2 [1] (m1 fList (mCons (mV 1) mNil))))
   (mSeq2 (mOf (mSet 3 [] (mLst mNil)))
   (mSeq2 (mOf (mWhile (mTruth (m2 oNe (mV 2) (mFr (mLst mNil))))
    b_law_picked_0))
   (mRetV2 3))))
def m_law_picked:Bd2:=M_law_picked b_law_picked_0
def f_law_picked:FnP:=runP m_law_picked 2 4
def B_law_parts_0 (f_law_take : FnP) : BdT :=
  (mIfP 0 (mPTest oEq 0 (mCallP f_law_take (mPu 0 (mCons (mC (.int 2)) mNil))) (mPu 0 (mSh (mC (.int 1)))))
        (mApp 4 [3, 5, 6] (mTup (mCons (m2 oIx (mV 3) (mV 6)) (mCons (m2 oIx (mV 3) (mV 5)) mNil))))
        mPass)
def b_law_parts_0:BdT:=B_law_parts_0 f_law_take
def B_law_parts_1 (b_law_parts_0 : BdT) : BdT :=
  (mFor (mR1 (mCons (mV 5) mNil)) (gN 6)
      b_law_parts_0)
def b_law_parts_1:BdT:=B_law_parts_1 b_law_parts_0
def M_law_parts (f_law_names : FnP) (f_law_take : FnP) (f_law_picked : FnP) (b_law_parts_1 : BdT) : Bd2 :=
  (mSeq2 (mOf (mSetP 0 1 [] (mCallP f_law_names (mPCons 0 (mP2 0 oAdd (mPu 0 (mSh (mC (.int 1)))) (mCallP f_law_take (mPu 0 (mCons (mC (.int 4)) mNil)))) (mPu 0 mNil)))))
   (mSeq2 (mOf (mSetP 0 2 [1] (mCallP f_law_names (mPCons 0 (mP2 0 oAdd (mPu 0 (mSh (mC (.int 1)))) (mCallP f_law_take (mPu 0 (mCons (m2 oIx (mFr (mLst (mCons (mC (.int 6)) (mCons (mC (.int 6)) (mCons (mC (.int 4)) (mCons (mC (.int 3)) mNil)))))) (m2 oSub (mFr (m1 fLen (mCons (mV 1) mNil))) (mC (.int 1)))) mNil)))) (mPu 0 mNil)))))
   (mSeq2 (mOf (mSetP 0 3 [2] (mCallP f_law_picked (mPu 0 (mCons (mV 2) mNil)))))
   (mSeq2 (mOf (mSet 4 [] (mLst mNil)))
   (mSeq2 (mOf (mFor (mR1 (mCons (mFr (m1 fLen (mCons (mV 3) mNil))) mNil)) (gN 5)
    b_law_parts_1))
   (mRet2 0 [1, 2, 4] (mP1 oLst (mPCons 0 (mPu 0 (mSh (mV 1))) (mPCons 0 (mPu 0 (mSh (mV 2))) (mPCons 0 (mCallP f_law_picked (mPu 0 (mCons (mV 4) mNil))) (mPu 0 mNil)))))))))))
def m_law_parts:Bd2:=M_law_parts f_law_names f_law_take f_law_picked b_law_parts_1
def f_law_parts:FnP:=runP m_law_parts 1 7
def m_is_name : BdT :=
  (mSeq (mIf (mNot (mTruth (mFr (m1 (fIsF tab) (mCons (mV 0) (mCons (mC (.ty "str")) mNil))))))
    (mRet (mSh (mC (.bl false))))
    mPass)
   (mSeq (mIf (mOr (mTruth (m2 oLt (mFr (m1 fLen (mCons (mV 0) mNil))) (mC (.int 1)))) (mTruth (m2 oGt (mFr (m1 fLen (mCons (mV 0) mNil))) (mC (.int 6)))))
    (mRet (mSh (mC (.bl false))))
    mPass)
   (mRet (m1 fAll (mCons (mFr (mComp 1 [] (mItc (mV 0)) (gN 0) mTrue (m2 oIn (mV 0) (mC (.str "abcdefghijklmnopqrstuvwxyz"))))) mNil)))))
def f_is_name:FnT:=runF m_is_name 1 1
def B_checked_names_0 (f_is_name : FnT) : BdT :=
  (mSeq (mIf (mNot (mTruth (mFr (m1 f_is_name (mCons (mV 3) mNil)))))
      mBad
      mPass)
     (mSeq (mIf (mTruth (m2 oIn (mV 3) (mV 2)))
      mBad
      mPass)
     (mApp 2 [3] (mV 3))))
def b_checked_names_0:BdT:=B_checked_names_0 f_is_name
def M_checked_names (b_checked_names_0 : BdT) : BdT :=
  (mSeq (mIf (mOr (mTruth (m2 oLt (mFr (m1 fLen (mCons (mV 0) mNil))) (mC (.int 1)))) (mTruth (m2 oGt (mFr (m1 fLen (mCons (mV 0) mNil))) (mV 1))))
    mBad
    mPass)
   (mSeq (mSet 2 [] (mLst mNil))
   (mSeq (mForV 0 (gN 3)
    b_checked_names_0)
   (mRet (m1 fTuple (mCons (mV 2) mNil))))))
def m_checked_names:BdT:=M_checked_names b_checked_names_0
def f_checked_names:FnT:=runF m_checked_names 2 4
def m_is_among:BdT:=
 (mRet (mSh (mIte (mTruth (mFr (m1 (fIsF tab) (mCons (mV 0) (mCons (mC (.ty "str")) mNil))))) (m2 oIn (mV 0) (mV 1)) (mC (.bl false)))))
def f_is_among:FnT:=runF m_is_among 2 2
def b_bringing_by_0 : BdT :=
  (mIf (mAnd (mTruth (m2 oEq (mV 5) (m2 oIx (mV 2) (mV 3)))) (mTruth (m2 oNotIn (mV 4) (mV 2))))
        (mApp 2 [4] (mV 4))
        mPass)
def B_bringing_by_1 (b_bringing_by_0 : BdT) : BdT :=
  (mSeq (mForV 0 (gSq 2 (gCs (gN 4) (gCs (gN 5) gNs)))
      b_bringing_by_0)
     (mSet 3 [3] (m2 oAdd (mV 3) (mC (.int 1)))))
def b_bringing_by_1:BdT:=B_bringing_by_1 b_bringing_by_0
def M_bringing_by (b_bringing_by_1 : BdT) : BdT :=
  (mSeq (mSet 2 [1] (mLst (mCons (mV 1) mNil)))
   (mSeq (mSet 3 [] (mSh (mC (.int 0))))
   (mSeq (mWhile (mTruth (m2 oLt (mV 3) (mFr (m1 fLen (mCons (mV 2) mNil)))))
    b_bringing_by_1)
   (mRetV 2))))
def m_bringing_by:BdT:=M_bringing_by b_bringing_by_1
def f_bringing_by:FnT:=runF m_bringing_by 2 6
def B_checked_pairs_0 (f_is_among : FnT) (f_bringing_by : FnT) : BdT :=
  (mSeq (mIf (mNot (mTruth (mFr (m1 f_is_among (mCons (mV 3) (mCons (mV 1) mNil))))))
      mBad
      mPass)
     (mSeq (mIf (mNot (mTruth (mFr (m1 f_is_among (mCons (mV 4) (mCons (mV 1) mNil))))))
      mBad
      mPass)
     (mSeq (mIf (mTruth (m2 oIn (mTup (mCons (mV 3) (mCons (mV 4) mNil))) (mV 2)))
      mBad
      mPass)
     (mSeq (mIf (mTruth (m2 oIn (mV 4) (mFr (m1 f_bringing_by (mCons (mV 2) (mCons (mV 3) mNil))))))
      mBad
      mPass)
     (mApp 2 [3, 4] (mTup (mCons (mV 3) (mCons (mV 4) mNil))))))))
def b_checked_pairs_0:BdT:=B_checked_pairs_0 f_is_among f_bringing_by
def M_checked_pairs (b_checked_pairs_0 : BdT) : BdT :=
  (mSeq (mIf (mTruth (m2 oGt (mFr (m1 fLen (mCons (mV 0) mNil))) (mC (.int 15))))
    mBad
    mPass)
   (mSeq (mSet 2 [] (mLst mNil))
   (mSeq (mForV 0 (gSq 2 (gCs (gN 3) (gCs (gN 4) gNs)))
    b_checked_pairs_0)
   (mRet (m1 fTuple (mCons (mV 2) mNil))))))
def m_checked_pairs:BdT:=M_checked_pairs b_checked_pairs_0
def f_checked_pairs:FnT:=runF m_checked_pairs 2 5
def b_bits_of_rights_0 : BdT :=
  (mSeq (mPut 2 [3] (mTup (mCons (mV 4) (mCons (mV 5) mNil))) (mV 3))
       (mSet 3 [3] (m2 oAdd (mV 3) (mV 3))))
def B_bits_of_rights_1 (b_bits_of_rights_0 : BdT) : BdT :=
  (mForV 1 (gN 5)
      b_bits_of_rights_0)
def b_bits_of_rights_1:BdT:=B_bits_of_rights_1 b_bits_of_rights_0
def M_bits_of_rights (b_bits_of_rights_1 : BdT) : BdT :=
  (mSeq (mSet 2 [] mDT)
   (mSeq (mSet 3 [] (mSh (mC (.int 1))))
   (mSeq (mForV 0 (gN 4)
    b_bits_of_rights_1)
   (mRetV 2))))
def m_bits_of_rights:BdT:=M_bits_of_rights b_bits_of_rights_1
def f_bits_of_rights:FnT:=runF m_bits_of_rights 2 6
def B_bringers_of_roles_0 (f_bringing_by : FnT) : BdT :=
  (mSeq (mSet 4 [1, 3] (m1 f_bringing_by (mCons (mV 1) (mCons (mV 3) mNil))))
     (mPut 2 [0, 4] (mV 3) (mFr (m1 fTuple (mCons (mFr (mComp 1 [4] (mItc (mV 0)) (gN 0) (mTruth (m2 oIn (mV 0) (mV 1))) (mV 0))) mNil)))))
def b_bringers_of_roles_0:BdT:=B_bringers_of_roles_0 f_bringing_by
def M_bringers_of_roles (b_bringers_of_roles_0 : BdT) : BdT :=
  (mSeq (mSet 2 [] mDK)
   (mSeq (mForV 0 (gN 3)
    b_bringers_of_roles_0)
   (mRetV 2)))
def m_bringers_of_roles:BdT:=M_bringers_of_roles b_bringers_of_roles_0
def f_bringers_of_roles:FnT:=runF m_bringers_of_roles 2 5
def M_Office__init_ (f_checked_names : FnT) (f_checked_pairs : FnT) (f_bits_of_rights : FnT) (f_bringers_of_roles : FnT) : BdT :=
  (mSeq (mFldS 0 [0] "folk" [1] (mFr (m1 f_checked_names (mCons (mV 1) (mCons (mC (.int 4)) mNil)))))
   (mSeq (mFldS 0 [0] "roles" [2] (mFr (m1 f_checked_names (mCons (mV 2) (mCons (mC (.int 6)) mNil)))))
   (mSeq (mIf (mTruth (m2 oGt (mFr (m2 oMul (mFr (m1 fLen (mCons (m1 (fFld [0] "folk") (mV 0)) mNil))) (mFr (m1 fLen (mCons (m1 (fFld [0] "roles") (mV 0)) mNil))))) (mC (.int 12))))
    mBad
    mPass)
   (mSeq (mFldS 0 [0] "pairs" [3] (mFr (m1 f_checked_pairs (mCons (mV 3) (mCons (m1 (fFld [0] "roles") (mV 0)) mNil)))))
   (mSeq (mFldS 0 [0] "right_bits" [] (mZ (m1 f_bits_of_rights (mCons (m1 (fFld [0] "folk") (mV 0)) (mCons (m1 (fFld [0] "roles") (mV 0)) mNil)))))
   (mFldS 0 [0] "bringers" [] (mFr (m1 f_bringers_of_roles (mCons (m1 (fFld [0] "roles") (mV 0)) (mCons (m1 (fFld [0] "pairs") (mV 0)) mNil))))))))))
def m_Office__init_:BdT:=M_Office__init_ f_checked_names f_checked_pairs f_bits_of_rights f_bringers_of_roles
def i_Office__init_:InT:=runI m_Office__init_ 4 4
def b_law_rights_0 : BdT :=
  (mSeq (mIf (mTruth (m2 oEq (m2 oAnd (m2 oShr (mV 2) (mV 4)) (mC (.int 1))) (mC (.int 1))))
        (mApp 3 [5, 6] (mTup (mCons (mV 5) (mCons (mV 6) mNil))))
        mPass)
       (mSet 4 [4] (m2 oAdd (mV 4) (mC (.int 1)))))
def B_law_rights_1 (b_law_rights_0 : BdT) : BdT :=
  (mForV 1 (gN 6)
      b_law_rights_0)
def b_law_rights_1:BdT:=B_law_rights_1 b_law_rights_0
def M_law_rights (b_law_rights_1 : BdT) : BdT :=
  (mSeq (mSet 3 [] (mLst mNil))
   (mSeq (mSet 4 [] (mSh (mC (.int 0))))
   (mSeq (mForV 0 (gN 5)
    b_law_rights_1)
   (mRetV 3))))
def m_law_rights:BdT:=M_law_rights b_law_rights_1
def f_law_rights:FnT:=runF m_law_rights 3 7
def m_is_whole:BdT:=
 (mRet (mSh (mIte (mTruth (mFr (m1 (fIsF tab) (mCons (mV 0) (mCons (mC (.ty "int")) mNil))))) (mBl (mNot (mTruth (mFr (m1 (fIsF tab) (mCons (mV 0) (mCons (mC (.ty "bool")) mNil))))))) (mC (.bl false)))))
def f_is_whole:FnT:=runF m_is_whole 1 1
def m_Office_bits:BdT:=
 (mRet (m1 fLen (mCons (m1 (fFld [0] "right_bits") (mV 0)) mNil)))
def f_Office_bits:FnT:=runF m_Office_bits 1 1
def M_Office_is_state (f_is_whole:FnT) (f_Office_bits:FnT):BdT:=
 (mRet (mSh (mIte (mTruth (mFr (m1 f_is_whole (mCons (mV 1) mNil)))) (mIte (mTruth (m2 oGe (mV 1) (mC (.int 0)))) (m2 oLe (mFr (mBM oBitLen (mV 1) mNil)) (mFr (mMeth 0 "bits" f_Office_bits (mV 0) mNil))) (mC (.bl false))) (mC (.bl false)))))
def m_Office_is_state:BdT:=M_Office_is_state f_is_whole f_Office_bits
def f_Office_is_state:FnT:=runF m_Office_is_state 2 2
def M_Office_must_be_state (f_Office_is_state : FnT) : BdT :=
  (mIf (mNot (mTruth (mFr (mMeth 0 "is_state" f_Office_is_state (mV 0) (mCons (mV 1) mNil)))))
    mBad
    mPass)
def m_Office_must_be_state:BdT:=M_Office_must_be_state f_Office_is_state
def f_Office_must_be_state:FnT:=runF m_Office_must_be_state 2 2
def M_Office_rights (f_Office_must_be_state : FnT) : BdT :=
  (mSeq (mDo (mMeth 0 "must_be_state" f_Office_must_be_state (mV 0) (mCons (mV 1) mNil)))
   (mRet (mComp 2 [1] (mItems (m1 (fFld [0] "right_bits") (mV 0))) (gSq 2 (gCs (gN 0) (gCs (gN 1) gNs))) (mTruth (m2 oNe (m2 oAnd (mV 2) (mV 1)) (mC (.int 0)))) (mV 0))))
def m_Office_rights:BdT:=M_Office_rights f_Office_must_be_state
def f_Office_rights:FnT:=runF m_Office_rights 2 2
def M_Office_must_be_role (f_is_among : FnT) : BdT :=
  (mIf (mNot (mTruth (mFr (m1 f_is_among (mCons (mV 1) (mCons (m1 (fFld [0] "roles") (mV 0)) mNil))))))
    mBad
    mPass)
def m_Office_must_be_role:BdT:=M_Office_must_be_role f_is_among
def f_Office_must_be_role:FnT:=runF m_Office_must_be_role 2 2
def M_Office_holders (f_Office_must_be_state : FnT) (f_Office_must_be_role : FnT) : BdT :=
  (mSeq (mDo (mMeth 0 "must_be_state" f_Office_must_be_state (mV 0) (mCons (mV 1) mNil)))
   (mSeq (mDo (mMeth 0 "must_be_role" f_Office_must_be_role (mV 0) (mCons (mV 2) mNil)))
   (mRet (mComp 1 [0, 1, 2] (mItc (m1 (fFld [0] "folk") (mV 0))) (gN 0) (mTruth (m2 oNe (m2 oAnd (mV 2) (m2 oGet (m1 (fFld [0] "right_bits") (mV 1)) (mTup (mCons (mV 0) (mCons (mV 3) mNil))))) (mC (.int 0)))) (mV 0)))))
def m_Office_holders:BdT:=M_Office_holders f_Office_must_be_state f_Office_must_be_role
def f_Office_holders:FnT:=runF m_Office_holders 3 3
def M_Office_must_be_folk (f_is_among : FnT) : BdT :=
  (mIf (mNot (mTruth (mFr (m1 f_is_among (mCons (mV 1) (mCons (m1 (fFld [0] "folk") (mV 0)) mNil))))))
    mBad
    mPass)
def m_Office_must_be_folk:BdT:=M_Office_must_be_folk f_is_among
def f_Office_must_be_folk:FnT:=runF m_Office_must_be_folk 2 2
def M_Office_bit (f_Office_must_be_folk : FnT) (f_Office_must_be_role : FnT) : BdT :=
  (mSeq (mDo (mMeth 0 "must_be_folk" f_Office_must_be_folk (mV 0) (mCons (mV 1) mNil)))
   (mSeq (mDo (mMeth 0 "must_be_role" f_Office_must_be_role (mV 0) (mCons (mV 2) mNil)))
   (mRet (mSh (m2 oGet (m1 (fFld [0] "right_bits") (mV 0)) (mTup (mCons (mV 1) (mCons (mV 2) mNil))))))))
def m_Office_bit:BdT:=M_Office_bit f_Office_must_be_folk f_Office_must_be_role
def f_Office_bit:FnT:=runF m_Office_bit 3 3
def B_law_bits_0 (f_Office_bit : FnT) : BdT :=
  (mSeq (mSet 7 [0, 4, 6] (mMeth 0 "bit" f_Office_bit (mV 0) (mCons (mV 4) (mCons (mV 6) mNil))))
       (mIf (mOr (mNot (mTruth (mFr (m1 (fIsF tab) (mCons (mV 7) (mCons (mC (.ty "int")) mNil)))))) (mOr (mTruth (mFr (m1 (fIsF tab) (mCons (mV 7) (mCons (mC (.ty "bool")) mNil))))) (mTruth (m2 oNe (mV 7) (m2 oShl (mC (.int 1)) (mFr (m2 oAdd (mFr (m2 oMul (mV 3) (mFr (m1 fLen (mCons (mV 2) mNil))))) (mV 5))))))))
        (mRet (mSh (mC (.bl false))))
        mPass))
def b_law_bits_0:BdT:=B_law_bits_0 f_Office_bit
def B_law_bits_1 (b_law_bits_0 : BdT) : BdT :=
  (mFor (mEnum [2] (mCons (mV 2) mNil)) (gSq 2 (gCs (gN 5) (gCs (gN 6) gNs)))
      b_law_bits_0)
def b_law_bits_1:BdT:=B_law_bits_1 b_law_bits_0
def M_law_bits (b_law_bits_1 : BdT) (f_Office_bits : FnT) : BdT :=
  (mSeq (mFor (mEnum [1] (mCons (mV 1) mNil)) (gSq 2 (gCs (gN 3) (gCs (gN 4) gNs)))
    b_law_bits_1)
   (mRet (mSh (m2 oEq (mFr (mMeth 0 "bits" f_Office_bits (mV 0) mNil)) (mFr (m2 oMul (mFr (m1 fLen (mCons (mV 1) mNil))) (mFr (m1 fLen (mCons (mV 2) mNil)))))))))
def m_law_bits:BdT:=M_law_bits b_law_bits_1 f_Office_bits
def f_law_bits:FnT:=runF m_law_bits 3 8
def M_law_states (f_Office_is_state : FnT) : BdT :=
  (mSeq (mSet 3 [0, 1, 2] (mComp 1 [0] (mItc (mFr (mLst (mCons (mV 1) (mCons (mC (.int 0)) (mCons (m2 oSub (mFr (m2 oMul (mC (.int 2)) (m2 oShl (mC (.int 1)) (m2 oSub (mV 2) (mC (.int 1)))))) (mC (.int 1))) mNil)))))) (gN 0) mTrue (mFr (mMeth 0 "is_state" f_Office_is_state (mV 1) (mCons (mV 0) mNil)))))
   (mSeq (mSet 4 [0, 1, 2] (mComp 1 [0] (mItc (mFr (mLst (mCons (m2 oShl (mC (.int 1)) (mV 2)) (mCons (m1 oNeg (mC (.int 1))) (mCons (m2 oSub (m2 oSub (mC (.int 0)) (mV 1)) (mC (.int 1))) (mCons (mC (.bl true)) (mCons (mC (.bl false)) (mCons (mC .non) (mCons (mC (.str "1")) (mCons (mFr (mLst (mCons (mC (.int 0)) mNil))) (mCons (mTup (mCons (mC (.int 0)) mNil)) mNil)))))))))))) (gN 0) mTrue (mFr (mMeth 0 "is_state" f_Office_is_state (mV 1) (mCons (mV 0) mNil)))))
   (mRet (mSh (mIte (mTruth (m2 oEq (mV 3) (mFr (m2 oMul (mFr (mLst (mCons (mC (.bl true)) mNil))) (mC (.int 3)))))) (mIte (mTruth (m2 oEq (mV 4) (mFr (m2 oMul (mFr (mLst (mCons (mC (.bl false)) mNil))) (mC (.int 9)))))) (mIte (mTruth (mFr (m1 (fIsF tab) (mCons (m2 oIx (mV 3) (mC (.int 0))) (mCons (mC (.ty "bool")) mNil))))) (mFr (m1 (fIsF tab) (mCons (m2 oIx (mV 4) (mC (.int 0))) (mCons (mC (.ty "bool")) mNil)))) (mC (.bl false))) (mC (.bl false))) (mC (.bl false)))))))
def m_law_states:BdT:=M_law_states f_Office_is_state
def f_law_states:FnT:=runF m_law_states 3 5
def B_Office_state_of_0 (f_Office_bit:FnT):BdT:=
 (mSet 2 [0,2,3,4] (mSh (m2 oOr (mV 2) (mFr (mMeth 0 "bit" f_Office_bit (mV 0) (mCons (mV 3) (mCons (mV 4) mNil)))))))
def b_Office_state_of_0:BdT:=B_Office_state_of_0 f_Office_bit
def M_Office_state_of (b_Office_state_of_0 : BdT) : BdT :=
  (mSeq (mSet 2 [] (mSh (mC (.int 0))))
   (mSeq (mForV 1 (gSq 2 (gCs (gN 3) (gCs (gN 4) gNs)))
    b_Office_state_of_0)
   (mRetV 2)))
def m_Office_state_of:BdT:=M_Office_state_of b_Office_state_of_0
def f_Office_state_of:FnT:=runF m_Office_state_of 2 5
def B_law_right_0 (f_Office_holders : FnT) : BdT :=
  (mSeq (mSet 8 [4, 6, 11] (mMeth 0 "holders" f_Office_holders (mV 4) (mCons (mV 6) (mCons (mV 11) mNil))))
     (mSeq (mIf (mOr (mNot (mTruth (mFr (m1 (fIsF tab) (mCons (mV 8) (mCons (mC (.ty "list")) mNil)))))) (mTruth (m2 oNe (mV 8) (mFr (mComp 1 [7, 11] (mItc (mV 1)) (gN 0) (mTruth (m2 oIn (mTup (mCons (mV 0) (mCons (mV 2) mNil))) (mV 1))) (mV 0))))))
      (mRet (mSh (mC (.bl false))))
      mPass)
     (mSeq (mApp 8 [] (mC (.str "q")))
     (mIf (mTruth (m2 oNe (mFr (mMeth 0 "holders" f_Office_holders (mV 4) (mCons (mV 6) (mCons (mV 11) mNil)))) (mFr (mSl (mV 8) mNo (mAt (m1 oNeg (mC (.int 1))))))))
      (mRet (mSh (mC (.bl false))))
      mPass))))
def b_law_right_0:BdT:=B_law_right_0 f_Office_holders
def M_law_right (f_law_parts : FnP) (i_Office__init_ : InT) (f_law_take : FnP) (f_law_rights : FnT) (f_law_bits : FnT) (f_law_states : FnT) (f_Office_rights : FnT) (f_law_picked : FnP) (f_Office_state_of : FnT) (b_law_right_0 : BdT) : BdT :=
  (mSeq (mAsgP 0 [] (mCallP f_law_parts (mPu 0 mNil)) (gSq 3 (gCs (gN 1) (gCs (gN 2) (gCs (gN 3) gNs)))))
   (mSeq (mSet 4 [1, 2, 3] (mMake 0 i_Office__init_ (mCons (mV 1) (mCons (mV 2) (mCons (mV 3) mNil)))))
   (mSeq (mSet 5 [1, 2] (m2 oMul (mFr (m1 fLen (mCons (mV 1) mNil))) (mFr (m1 fLen (mCons (mV 2) mNil)))))
   (mSeq (mSetP 0 6 [5] (mCallP f_law_take (mPu 0 (mCons (m2 oShl (mC (.int 1)) (mV 5)) mNil))))
   (mSeq (mSet 7 [1, 2, 6] (m1 f_law_rights (mCons (mV 1) (mCons (mV 2) (mCons (mV 6) mNil)))))
   (mSeq (mIf (mOr (mNot (mTruth (mFr (m1 f_law_bits (mCons (mV 4) (mCons (mV 1) (mCons (mV 2) mNil))))))) (mNot (mTruth (mFr (m1 f_law_states (mCons (mV 4) (mCons (mV 6) (mCons (mV 5) mNil))))))))
    (mRet (mSh (mC (.bl false))))
    mPass)
   (mSeq (mSet 8 [4, 6] (mMeth 0 "rights" f_Office_rights (mV 4) (mCons (mV 6) mNil)))
   (mSeq (mIf (mOr (mNot (mTruth (mFr (m1 (fIsF tab) (mCons (mV 8) (mCons (mC (.ty "list")) mNil)))))) (mTruth (m2 oNe (mV 8) (mV 7))))
    (mRet (mSh (mC (.bl false))))
    mPass)
   (mSeq (mApp 8 [] (mC (.int 1)))
   (mSeq (mSetP 0 9 [7] (mCallP f_law_picked (mPCons 0 (mP2 0 oAdd (mPu 0 (mSh (mV 7))) (mPSl 0 (mPu 0 (mSh (mV 7))) (mPu 0 mNo) (mPAt (mCallP f_law_take (mPu 0 (mCons (mC (.int 3)) mNil)))))) (mPu 0 mNil))))
   (mSeq (mSet 10 [9] (m1 fList (mCons (mV 9) mNil)))
   (mSeq (mIf (mOr (mTruth (m2 oNe (mFr (mMeth 0 "state_of" f_Office_state_of (mV 4) (mCons (mV 9) mNil))) (mV 6))) (mOr (mTruth (m2 oNe (mFr (mMeth 0 "state_of" f_Office_state_of (mV 4) (mCons (mFr (m1 fTuple (mCons (mV 9) mNil))) mNil))) (mV 6))) (mTruth (m2 oNe (mV 9) (mV 10)))))
    (mRet (mSh (mC (.bl false))))
    mPass)
   (mSeq (mForV 2 (gN 11)
    b_law_right_0)
   (mRet (mSh (m2 oEq (mFr (mMeth 0 "rights" f_Office_rights (mV 4) (mCons (mV 6) mNil))) (mV 7)))))))))))))))))
def m_law_right:BdT:=M_law_right f_law_parts i_Office__init_ f_law_take f_law_rights f_law_bits f_law_states f_Office_rights f_law_picked f_Office_state_of b_law_right_0
def f_law_right:FnG:=runT m_law_right 1 12
def b_law_rich_0 : BdT :=
  (mSeq (mSet 1 [1, 3] (mSh (m2 oMod (mFr (m2 oAdd (mFr (m2 oAdd (mFr (m2 oAdd (mFr (m2 oMul (mV 1) (mV 1))) (mFr (m2 oMul (mC (.int 48271)) (mV 1))))) (mFr (m2 oMul (mC (.int 7919)) (mV 3))))) (mC (.int 5)))) (mC (.int 2147483629)))))
     (mSet 2 [1, 2] (m2 oAdd (mFr (m2 oMul (mV 2) (mC (.int 2147483587)))) (m2 oMod (mFr (m2 oMul (mFr (m2 oAdd (mV 1) (mC (.int 11)))) (mFr (m2 oAdd (mV 1) (mC (.int 11)))))) (mC (.int 2147483587))))))
def M_law_rich (b_law_rich_0 : BdT) : BdT :=
  (mSeq (mSet 1 [0] (mSh (m2 oMod (mV 0) (mC (.int 2147483629)))))
   (mSeq (mSet 2 [] (mSh (mC (.int 0))))
   (mSeq (mFor (mR1 (mCons (mC (.int 8)) mNil)) (gN 3)
    b_law_rich_0)
   (mRetV 2))))
def m_law_rich:BdT:=M_law_rich b_law_rich_0
def f_law_rich:FnT:=runF m_law_rich 1 4
def M_law_purse (f_law_rich : FnT) : BdT :=
  (mSeq (mSet 2 [] (mSh (mC (.int 0))))
   (mSeq (mIf (mTruth (m2 oLt (mV 1) (mFr (m1 fLen (mCons (mV 0) mNil)))))
    (mSet 2 [0, 1] (mSh (m2 oIx (mV 0) (mV 1))))
    mPass)
   (mSeq (mIf (mTruth (m2 oEq (m2 oMod (mV 2) (mC (.int 2))) (mC (.int 0))))
    (mRet (mLst (mCons (m2 oFdiv (mV 2) (mC (.int 2))) (mCons (mFr (m1 f_law_rich (mCons (mV 2) mNil))) mNil))))
    mPass)
   (mRet (mLst (mCons (mFr (m1 f_law_rich (mCons (mV 2) mNil))) mNil))))))
def m_law_purse:BdT:=M_law_purse f_law_rich
def f_law_purse:FnT:=runF m_law_purse 2 3
def B_law_0 (f_law_right : FnG) (f_law_purse : FnT) : BdT :=
  (mIf (mNot (mTruth (mFr (mCallT f_law_right (m1 f_law_purse (mCons (mV 0) (mCons (mV 1) mNil)))))))
      (mRet (mSh (mC (.bl false))))
      mPass)
def b_law_0:BdT:=B_law_0 f_law_right f_law_purse
def M_law (b_law_0 : BdT) : BdT :=
  (mSeq (mFor (mR1 (mCons (mFr (m1 fMax (mCons (mC (.int 1)) (mCons (mFr (m1 fMin (mCons (mFr (m1 fLen (mCons (mV 0) mNil))) (mCons (mC (.int 20)) mNil)))) mNil)))) mNil)) (gN 1)
    b_law_0)
   (mRet (mSh (mC (.bl true)))))
def m_law:BdT:=M_law b_law_0
def f_law:FnT:=runF m_law 1 2
end
end My
namespace My
open PySem L2
abbrev nL0:List Str:=["_law_purse_here","_law_folk","_law_roles","_law_pairs","_law_office","_law_many","_law_state","_law_rights_here","_law_told","_law_handed","_law_kept","_law_role"]
abbrev nL1:List Str:=["self","thing"]
abbrev nL2:List Str:=["_law_purse_here","_law_many","_law_letters","_law_base","_law_at","_law_first"]
abbrev nL3:List Str:=["_law_office","_law_state","_law_many","_law_good","_law_bad"]
abbrev nL4:List Str:=["self","folk","roles","pairs"]
abbrev nL5:List Str:=["_law_k","_law_letters","_law_base","_law_at","_law_first"]
abbrev nL6:List Str:=["_law_office","_law_folk","_law_roles"]
abbrev nL7:List Str:=["_law_office","_law_state","_law_many"]
abbrev nL8:List Str:=["self","state","role"]
abbrev nL9:List Str:=["_law_folk","_law_roles","_law_state"]
abbrev nL10:List Str:=["_law_thing","_law_office"]
abbrev nL11:List Str:=["_law_purse_here"]
abbrev nL12:List Str:=["_law_script","_law_k"]
abbrev nL13:List Str:=["_law_purse_here","_law_many"]
abbrev nL14:List Str:=["_law_purse_here","_law_some"]
abbrev nL15:List Str:=["roles","pairs","bringers","role","found"]
abbrev nL16:List Str:=["self","who","role"]
abbrev nL17:List Str:=["_law_purse_here","_law_by"]
abbrev nL18:List Str:=["_law_k","_law_purse_here","_law_letters"]
abbrev nL19:List Str:=["_law_who","_law_rights_here","_law_role"]
abbrev nL20:List Str:=["self","state"]
abbrev nL21:List Str:=["right","bit","state"]
abbrev nL22:List Str:=["thing","names"]
def top (i:Nat):Stmt:=PySem.Challenge.pw_mightever_k03_bits_and_rights.main.body.getD i (.Pass ⟨0,0,0,0⟩)
abbrev s_law_take:Stmt:=top 30
theorem sc_law_take:FnScope ["_law_purse_here","_law_by","_law_figure"] nL17 (defScope s_law_take):=scm
abbrev s_law_names:Stmt:=top 31
theorem sc_law_names:FnScope nL2 nL13 (defScope s_law_names):=scm
abbrev s_law_picked:Stmt:=top 32
theorem sc_law_picked:FnScope ["_law_purse_here","_law_some","_law_left","_law_found"] nL14 (defScope s_law_picked):=scm
abbrev s_law_parts:Stmt:=top 33
theorem sc_law_parts:FnScope ["_law_purse_here","_law_folk","_law_roles","_law_order","_law_pairs","_law_k","_law_j"] nL11 (defScope s_law_parts):=scm
abbrev s_is_name:Stmt:=top 14
theorem sc_is_name:FnScope ["thing"] ["thing"] (defScope s_is_name):=scm
abbrev s_checked_names:Stmt:=top 21
theorem sc_checked_names:FnScope ["names","most","checked","name"] ["names","most"] (defScope s_checked_names):=scm
abbrev s_is_among:Stmt:=top 20
theorem sc_is_among:FnScope nL22 nL22 (defScope s_is_among):=scm
abbrev s_bringing_by:Stmt:=top 22
theorem sc_bringing_by:FnScope ["pairs","role","found","place","upper","lower"] ["pairs","role"] (defScope s_bringing_by):=scm
abbrev s_checked_pairs:Stmt:=top 23
theorem sc_checked_pairs:FnScope ["pairs","roles","checked","upper","lower"] ["pairs","roles"] (defScope s_checked_pairs):=scm
abbrev s_bits_of_rights:Stmt:=top 24
theorem sc_bits_of_rights:FnScope ["folk","roles","bits","power","who","role"] ["folk","roles"] (defScope s_bits_of_rights):=scm
abbrev s_bringers_of_roles:Stmt:=top 25
theorem sc_bringers_of_roles:FnScope nL15 ["roles","pairs"] (defScope s_bringers_of_roles):=scm
abbrev s_Office__init_:Stmt:=inClass (top 26) 0
theorem sc_Office__init_:FnScope nL4 nL4 (defScope s_Office__init_):=scm
abbrev s_law_rights:Stmt:=top 34
theorem sc_law_rights:FnScope ["_law_folk","_law_roles","_law_state","_law_rights_here","_law_place","_law_who","_law_role"] nL9 (defScope s_law_rights):=scm
abbrev s_is_whole:Stmt:=top 13
theorem sc_is_whole:FnScope ["thing"] ["thing"] (defScope s_is_whole):=scm
abbrev s_Office_bits:Stmt:=inClass (top 26) 5
theorem sc_Office_bits:FnScope ["self"] ["self"] (defScope s_Office_bits):=scm
abbrev s_Office_is_state:Stmt:=inClass (top 26) 7
theorem sc_Office_is_state:FnScope nL1 nL1 (defScope s_Office_is_state):=scm
abbrev s_Office_must_be_state:Stmt:=inClass (top 26) 1
theorem sc_Office_must_be_state:FnScope nL1 nL1 (defScope s_Office_must_be_state):=scm
abbrev s_Office_rights:Stmt:=inClass (top 26) 11
theorem sc_Office_rights:FnScope nL20 nL20 (defScope s_Office_rights):=scm
abbrev s_Office_must_be_role:Stmt:=inClass (top 26) 3
theorem sc_Office_must_be_role:FnScope nL1 nL1 (defScope s_Office_must_be_role):=scm
abbrev s_Office_holders:Stmt:=inClass (top 26) 10
theorem sc_Office_holders:FnScope nL8 nL8 (defScope s_Office_holders):=scm
abbrev s_Office_must_be_folk:Stmt:=inClass (top 26) 2
theorem sc_Office_must_be_folk:FnScope nL1 nL1 (defScope s_Office_must_be_folk):=scm
abbrev s_Office_bit:Stmt:=inClass (top 26) 6
theorem sc_Office_bit:FnScope nL16 nL16 (defScope s_Office_bit):=scm
abbrev s_law_bits:Stmt:=top 35
theorem sc_law_bits:FnScope ["_law_office","_law_folk","_law_roles","_law_i","_law_who","_law_j","_law_role","_law_told"] nL6 (defScope s_law_bits):=scm
abbrev s_law_states:Stmt:=top 36
theorem sc_law_states:FnScope nL3 nL7 (defScope s_law_states):=scm
abbrev s_Office_state_of:Stmt:=inClass (top 26) 12
theorem sc_Office_state_of:FnScope ["self","rights","state","who","role"] ["self","rights"] (defScope s_Office_state_of):=scm
abbrev s_law_right:Stmt:=top 37
theorem sc_law_right:FnScope nL0 nL11 (defScope s_law_right):=scm
abbrev s_law_rich:Stmt:=top 28
theorem sc_law_rich:FnScope ["_law_cell","_law_number","_law_found","_law_k"] ["_law_cell"] (defScope s_law_rich):=scm
abbrev s_law_purse:Stmt:=top 29
theorem sc_law_purse:FnScope ["_law_script","_law_k","_law_cell"] nL12 (defScope s_law_purse):=scm
abbrev s_law:Stmt:=top 38
theorem sc_law:FnScope nL12 ["_law_script"] (defScope s_law):=scm
structure Adr where
 c_Office:Addr
 f_law_take:Addr
 d_law_take:FuncData
 f_law_names:Addr
 d_law_names:FuncData
 f_law_picked:Addr
 d_law_picked:FuncData
 f_law_parts:Addr
 d_law_parts:FuncData
 f_is_name:Addr
 d_is_name:FuncData
 f_checked_names:Addr
 d_checked_names:FuncData
 f_is_among:Addr
 d_is_among:FuncData
 f_bringing_by:Addr
 d_bringing_by:FuncData
 f_checked_pairs:Addr
 d_checked_pairs:FuncData
 f_bits_of_rights:Addr
 d_bits_of_rights:FuncData
 f_bringers_of_roles:Addr
 d_bringers_of_roles:FuncData
 f_Office__init_:Addr
 d_Office__init_:FuncData
 f_law_rights:Addr
 d_law_rights:FuncData
 f_is_whole:Addr
 d_is_whole:FuncData
 f_Office_bits:Addr
 d_Office_bits:FuncData
 f_Office_is_state:Addr
 d_Office_is_state:FuncData
 f_Office_must_be_state:Addr
 d_Office_must_be_state:FuncData
 f_Office_rights:Addr
 d_Office_rights:FuncData
 f_Office_must_be_role:Addr
 d_Office_must_be_role:FuncData
 f_Office_holders:Addr
 d_Office_holders:FuncData
 f_Office_must_be_folk:Addr
 d_Office_must_be_folk:FuncData
 f_Office_bit:Addr
 d_Office_bit:FuncData
 f_law_bits:Addr
 d_law_bits:FuncData
 f_law_states:Addr
 d_law_states:FuncData
 f_Office_state_of:Addr
 d_Office_state_of:FuncData
 f_law_right:Addr
 d_law_right:FuncData
 f_law_rich:Addr
 d_law_rich:FuncData
 f_law_purse:Addr
 d_law_purse:FuncData
 f_law:Addr
 d_law:FuncData
structure Txt (K:W.Frag) (mg:Str→Option Value) (A:Adr):Prop where
 F_law_take:Fun K "_law_take" "_law_take" s_law_take A.f_law_take A.d_law_take
 m_law_take:mg "_law_take"=some (.ref A.f_law_take)
 F_law_names:Fun K "_law_names" "_law_names" s_law_names A.f_law_names A.d_law_names
 m_law_names:mg "_law_names"=some (.ref A.f_law_names)
 F_law_picked:Fun K "_law_picked" "_law_picked" s_law_picked A.f_law_picked A.d_law_picked
 m_law_picked:mg "_law_picked"=some (.ref A.f_law_picked)
 F_law_parts:Fun K "_law_parts" "_law_parts" s_law_parts A.f_law_parts A.d_law_parts
 m_law_parts:mg "_law_parts"=some (.ref A.f_law_parts)
 F_is_name:Fun K "is_name" "is_name" s_is_name A.f_is_name A.d_is_name
 m_is_name:mg "is_name"=some (.ref A.f_is_name)
 F_checked_names:Fun K "checked_names" "checked_names" s_checked_names A.f_checked_names A.d_checked_names
 m_checked_names:mg "checked_names"=some (.ref A.f_checked_names)
 F_is_among:Fun K "is_among" "is_among" s_is_among A.f_is_among A.d_is_among
 m_is_among:mg "is_among"=some (.ref A.f_is_among)
 F_bringing_by:Fun K "bringing_by" "bringing_by" s_bringing_by A.f_bringing_by A.d_bringing_by
 m_bringing_by:mg "bringing_by"=some (.ref A.f_bringing_by)
 F_checked_pairs:Fun K "checked_pairs" "checked_pairs" s_checked_pairs A.f_checked_pairs A.d_checked_pairs
 m_checked_pairs:mg "checked_pairs"=some (.ref A.f_checked_pairs)
 F_bits_of_rights:Fun K "bits_of_rights" "bits_of_rights" s_bits_of_rights A.f_bits_of_rights A.d_bits_of_rights
 m_bits_of_rights:mg "bits_of_rights"=some (.ref A.f_bits_of_rights)
 F_bringers_of_roles:Fun K "bringers_of_roles" "bringers_of_roles" s_bringers_of_roles A.f_bringers_of_roles A.d_bringers_of_roles
 m_bringers_of_roles:mg "bringers_of_roles"=some (.ref A.f_bringers_of_roles)
 F_Office__init_:Fun K "__init__" "Office.__init__" s_Office__init_ A.f_Office__init_ A.d_Office__init_
 F_law_rights:Fun K "_law_rights" "_law_rights" s_law_rights A.f_law_rights A.d_law_rights
 m_law_rights:mg "_law_rights"=some (.ref A.f_law_rights)
 F_is_whole:Fun K "is_whole" "is_whole" s_is_whole A.f_is_whole A.d_is_whole
 m_is_whole:mg "is_whole"=some (.ref A.f_is_whole)
 F_Office_bits:Fun K "bits" "Office.bits" s_Office_bits A.f_Office_bits A.d_Office_bits
 F_Office_is_state:Fun K "is_state" "Office.is_state" s_Office_is_state A.f_Office_is_state A.d_Office_is_state
 F_Office_must_be_state:Fun K "must_be_state" "Office.must_be_state" s_Office_must_be_state A.f_Office_must_be_state A.d_Office_must_be_state
 F_Office_rights:Fun K "rights" "Office.rights" s_Office_rights A.f_Office_rights A.d_Office_rights
 F_Office_must_be_role:Fun K "must_be_role" "Office.must_be_role" s_Office_must_be_role A.f_Office_must_be_role A.d_Office_must_be_role
 F_Office_holders:Fun K "holders" "Office.holders" s_Office_holders A.f_Office_holders A.d_Office_holders
 F_Office_must_be_folk:Fun K "must_be_folk" "Office.must_be_folk" s_Office_must_be_folk A.f_Office_must_be_folk A.d_Office_must_be_folk
 F_Office_bit:Fun K "bit" "Office.bit" s_Office_bit A.f_Office_bit A.d_Office_bit
 F_law_bits:Fun K "_law_bits" "_law_bits" s_law_bits A.f_law_bits A.d_law_bits
 m_law_bits:mg "_law_bits"=some (.ref A.f_law_bits)
 F_law_states:Fun K "_law_states" "_law_states" s_law_states A.f_law_states A.d_law_states
 m_law_states:mg "_law_states"=some (.ref A.f_law_states)
 F_Office_state_of:Fun K "state_of" "Office.state_of" s_Office_state_of A.f_Office_state_of A.d_Office_state_of
 F_law_right:Fun K "_law_right" "_law_right" s_law_right A.f_law_right A.d_law_right
 m_law_right:mg "_law_right"=some (.ref A.f_law_right)
 F_law_rich:Fun K "_law_rich" "_law_rich" s_law_rich A.f_law_rich A.d_law_rich
 m_law_rich:mg "_law_rich"=some (.ref A.f_law_rich)
 F_law_purse:Fun K "_law_purse" "_law_purse" s_law_purse A.f_law_purse A.d_law_purse
 m_law_purse:mg "_law_purse"=some (.ref A.f_law_purse)
 F_law:Fun K "law" "law" s_law A.f_law A.d_law
 m_law:mg "law"=some (.ref A.f_law)
 mg_Office:mg "Office"=some (.ref A.c_Office)
 cl_Office:Cls K A.c_Office
 M_Office:Mk K A.c_Office A.f_Office__init_
 na_Office_folk:NoAttr K A.c_Office "folk"
 na_Office_roles:NoAttr K A.c_Office "roles"
 na_Office_pairs:NoAttr K A.c_Office "pairs"
 na_Office_right_bits:NoAttr K A.c_Office "right_bits"
 na_Office_bringers:NoAttr K A.c_Office "bringers"
 me_Office_bit:Meth K A.c_Office "bit" A.f_Office_bit
 me_Office_bits:Meth K A.c_Office "bits" A.f_Office_bits
 me_Office_holders:Meth K A.c_Office "holders" A.f_Office_holders
 me_Office_is_state:Meth K A.c_Office "is_state" A.f_Office_is_state
 me_Office_must_be_folk:Meth K A.c_Office "must_be_folk" A.f_Office_must_be_folk
 me_Office_must_be_role:Meth K A.c_Office "must_be_role" A.f_Office_must_be_role
 me_Office_must_be_state:Meth K A.c_Office "must_be_state" A.f_Office_must_be_state
 me_Office_rights:Meth K A.c_Office "rights" A.f_Office_rights
 me_Office_state_of:Meth K A.c_Office "state_of" A.f_Office_state_of
 z_all:mg "all"=none
 z_bool:mg "bool"=none
 z_enumerate:mg "enumerate"=none
 z_int:mg "int"=none
 z_isinstance:mg "isinstance"=none
 z_len:mg "len"=none
 z_list:mg "list"=none
 z_max:mg "max"=none
 z_min:mg "min"=none
 z_range:mg "range"=none
 z_str:mg "str"=none
 z_tuple:mg "tuple"=none
 c_LETTERS:GC mg "LETTERS" (V.str "abcdefghijklmnopqrstuvwxyz")
 c_LONGEST_NAME:GC mg "LONGEST_NAME" (V.int 6)
 c_MOST_BITS:GC mg "MOST_BITS" (V.int 12)
 c_MOST_FOLK:GC mg "MOST_FOLK" (V.int 4)
 c_MOST_PAIRS:GC mg "MOST_PAIRS" (V.int 15)
 c_MOST_ROLES:GC mg "MOST_ROLES" (V.int 6)
def bk (K:W.Frag) (A:Adr):Bk:=⟨K,fun c=>match c with | 0=>A.c_Office | _=>0⟩
section
variable {K:W.Frag} {mg:Str→Option Value} {A:Adr}
theorem b_law_take (T:Txt K mg A):Binds K A.d_law_take nL17 []:=T.F_law_take.b2
theorem b_law_names (T:Txt K mg A):Binds K A.d_law_names nL13 []:=T.F_law_names.b2
theorem b_law_picked (T:Txt K mg A):Binds K A.d_law_picked nL14 []:=T.F_law_picked.b2
theorem b_law_parts (T:Txt K mg A):Binds K A.d_law_parts nL11 []:=T.F_law_parts.b1
theorem b_is_name (T:Txt K mg A):Binds K A.d_is_name ["thing"] []:=T.F_is_name.b1
theorem b_checked_names (T:Txt K mg A):Binds K A.d_checked_names ["names","most"] []:=T.F_checked_names.b2
theorem b_is_among (T:Txt K mg A):Binds K A.d_is_among nL22 []:=T.F_is_among.b2
theorem b_bringing_by (T:Txt K mg A):Binds K A.d_bringing_by ["pairs","role"] []:=T.F_bringing_by.b2
theorem b_checked_pairs (T:Txt K mg A):Binds K A.d_checked_pairs ["pairs","roles"] []:=T.F_checked_pairs.b2
theorem b_bits_of_rights (T:Txt K mg A):Binds K A.d_bits_of_rights ["folk","roles"] []:=T.F_bits_of_rights.b2
theorem b_bringers_of_roles (T:Txt K mg A):Binds K A.d_bringers_of_roles ["roles","pairs"] []:=T.F_bringers_of_roles.b2
theorem b_Office__init_ (T:Txt K mg A):Binds K A.d_Office__init_ nL4 []:=T.F_Office__init_.b4
theorem b_law_rights (T:Txt K mg A):Binds K A.d_law_rights nL9 []:=T.F_law_rights.b3
theorem b_is_whole (T:Txt K mg A):Binds K A.d_is_whole ["thing"] []:=T.F_is_whole.b1
theorem b_Office_bits (T:Txt K mg A):Binds K A.d_Office_bits ["self"] []:=T.F_Office_bits.b1
theorem b_Office_is_state (T:Txt K mg A):Binds K A.d_Office_is_state nL1 []:=T.F_Office_is_state.b2
theorem b_Office_must_be_state (T:Txt K mg A):Binds K A.d_Office_must_be_state nL1 []:=T.F_Office_must_be_state.b2
theorem b_Office_rights (T:Txt K mg A):Binds K A.d_Office_rights nL20 []:=T.F_Office_rights.b2
theorem b_Office_must_be_role (T:Txt K mg A):Binds K A.d_Office_must_be_role nL1 []:=T.F_Office_must_be_role.b2
theorem b_Office_holders (T:Txt K mg A):Binds K A.d_Office_holders nL8 []:=T.F_Office_holders.b3
theorem b_Office_must_be_folk (T:Txt K mg A):Binds K A.d_Office_must_be_folk nL1 []:=T.F_Office_must_be_folk.b2
theorem b_Office_bit (T:Txt K mg A):Binds K A.d_Office_bit nL16 []:=T.F_Office_bit.b3
theorem b_law_bits (T:Txt K mg A):Binds K A.d_law_bits nL6 []:=T.F_law_bits.b3
theorem b_law_states (T:Txt K mg A):Binds K A.d_law_states nL7 []:=T.F_law_states.b3
theorem b_Office_state_of (T:Txt K mg A):Binds K A.d_Office_state_of ["self","rights"] []:=T.F_Office_state_of.b2
theorem b_law_right (T:Txt K mg A):Binds K A.d_law_right nL11 []:=T.F_law_right.b1
theorem b_law_rich (T:Txt K mg A):Binds K A.d_law_rich ["_law_cell"] []:=T.F_law_rich.b1
theorem b_law_purse (T:Txt K mg A):Binds K A.d_law_purse nL12 []:=T.F_law_purse.b2
theorem fld_bringers (T:Txt K mg A):∀ c∈[0],Cls (bk K A).K ((bk K A).cl c)∧NoAttr (bk K A).K ((bk K A).cl c) "bringers":=by
 intro c h
 simp only [List.mem_cons,List.not_mem_nil,or_false] at h
 subst h
 exact ⟨T.cl_Office,T.na_Office_bringers⟩
theorem fld_folk (T:Txt K mg A):∀ c∈[0],Cls (bk K A).K ((bk K A).cl c)∧NoAttr (bk K A).K ((bk K A).cl c) "folk":=by
 intro c h
 simp only [List.mem_cons,List.not_mem_nil,or_false] at h
 subst h
 exact ⟨T.cl_Office,T.na_Office_folk⟩
theorem fld_pairs (T:Txt K mg A):∀ c∈[0],Cls (bk K A).K ((bk K A).cl c)∧NoAttr (bk K A).K ((bk K A).cl c) "pairs":=by
 intro c h
 simp only [List.mem_cons,List.not_mem_nil,or_false] at h
 subst h
 exact ⟨T.cl_Office,T.na_Office_pairs⟩
theorem fld_right_bits (T:Txt K mg A):∀ c∈[0],Cls (bk K A).K ((bk K A).cl c)∧NoAttr (bk K A).K ((bk K A).cl c) "right_bits":=by
 intro c h
 simp only [List.mem_cons,List.not_mem_nil,or_false] at h
 subst h
 exact ⟨T.cl_Office,T.na_Office_right_bits⟩
theorem fld_roles (T:Txt K mg A):∀ c∈[0],Cls (bk K A).K ((bk K A).cl c)∧NoAttr (bk K A).K ((bk K A).cl c) "roles":=by
 intro c h
 simp only [List.mem_cons,List.not_mem_nil,or_false] at h
 subst h
 exact ⟨T.cl_Office,T.na_Office_roles⟩
theorem tab_ok (T:Txt K mg A):∀ c C b,tab c C=some b→KInst (bk K A).K ((bk K A).cl c)∧W.kitOne (bk K A).K (.ref ((bk K A).cl c)) (.ref ((bk K A).cl C))=some b:=by
 intro c C b h
 unfold tab at h
 ·cases h
end
section
variable {P:Program} {w:World} {K:W.Frag} {mg:Str→Option Value} {base:Heap} {A:Adr}
theorem ok_law_take (T : Txt K mg A) : FnOk P w K mg base CX0 1 A.f_law_take A.d_law_take nL17 (SpP (bk K A) 2 f_law_take) :=
  T.F_law_take.okPJ sc_law_take rfl fun jx =>
   (jb2_cons (js2_of (js_if (JW.t (jw_and (jt_cmp (c_eq jx) (j_ix jx (j_var 0) j_int) j_int (nomark _)) (jw_and1 (jt_cmp c_gt (JE.asD (j_callB jx (b_len jx) T.z_len PyProof.Rows.Boot.«len» (ja_cons (j_var 0) ja_nil aN) aN)) j_int (nomark _)))))
    (jb_one (js_putP 0 (jp_pop jx 0) j_int))
    jb_nil))
   (jb2_cons (js2_of (js_set 2 (L' := [0, 1]) (fun _ => sc_law_take.nd) (fun _ => (Or.inl rfl)) (JD.asE (j_op (fun _ => op_mod) od_mod (j_ix jx (j_var 0) j_int) (j_var 1)))))
   (jb2_cons (js2_of (js_putP 0 (jp_pure (JD.asE (j_op (fun _ => op_fdivB) od_fdiv (j_ix jx (j_var 0) j_int) (j_var 1)))) j_int))
   (jb2_one (js2_retV 2)))))
theorem ok_law_names (T : Txt K mg A) : FnOk P w K mg base CX0 2 A.f_law_names A.d_law_names nL13 (SpP (bk K A) 2 f_law_names) :=
  T.F_law_names.okPJ sc_law_names rfl fun jx =>
   (jb2_cons (js2_of (js_set 2 (L' := []) (fun _ => sc_law_names.nd) (fun _ => (Or.inr rfl)) (JD.asE j_str)))
   (jb2_cons (js2_of (js_setP 3 (L' := [2]) (fun _ => sc_law_names.nd) (fun _ => (Or.inr rfl)) (jp_bm jx (mm_join jx) (jp_pure (JD.asE j_str)) (jpa_cons (jp_comp jx 1 (Lf := [2]) (NX := nL2) (SX := defScope s_law_names) (N := nL18) (own := 1) (fi := [0, 2]) ⟨rfl, by decide +kernel, by decide +kernel, by decide +kernel, rfl, by decide +kernel⟩ (jpi_rng1 jx T.z_range (jpa_cons (jp_callP jx 0 (ok_law_take T) (by decide) T.m_law_take T.F_law_take.kp (b_law_take T) runP_len' (jpa_pure (ja_cons j_int ja_nil aC))) (jpa_pure ja_nil) aL)) (jg_name 0 (fun _ => (show (nL18 : List Str).Nodup by decide +kernel)) (fun _ => Or.inl rfl)) (jpif_pure jif_nil) (jp_ix (JX.comp jx _ _) (jp_pure (JD.asE (j_var 2))) (jp_callP (JX.comp jx _ _) 1 (ok_law_take T) (by decide) T.m_law_take T.F_law_take.kp (b_law_take T) runP_len' (jpa_pure (ja_cons j_int ja_nil aC))))) (jpa_pure ja_nil) aM) aM)))
   (jb2_cons (js2_of (js_setP 4 (L' := [3]) (fun _ => sc_law_names.nd) (fun _ => (Or.inr rfl)) (jp_callP jx 0 (ok_law_take T) (by decide) T.m_law_take T.F_law_take.kp (b_law_take T) runP_len' (jpa_pure (ja_cons (JE.asD (j_add jx (JE.asD (j_callB jx (b_len jx) T.z_len PyProof.Rows.Boot.«len» (ja_cons (j_var 3) ja_nil aN) aN)) j_int)) ja_nil aB)))))
   (jb2_cons (js2_of (js_setP 5 (L' := []) (fun _ => sc_law_names.nd) (fun _ => (Or.inr rfl)) (jp_callP jx 0 (ok_law_take T) (by decide) T.m_law_take T.F_law_take.kp (b_law_take T) runP_len' (jpa_pure (ja_cons j_int ja_nil aC)))))
   (jb2_one (js2_ret (p := 0) (L' := [2, 3, 4, 5]) (jp_pure (j_comp jx (NX := nL2) (SX := defScope s_law_names) (N := nL5) (own := 1) (fi := [2, 3, 4, 5]) ⟨rfl, by decide +kernel, by decide +kernel, by decide +kernel, rfl, by decide +kernel⟩ (JI.asC (ji_rng1 jx T.z_range (ja_cons (j_var 1) ja_nil aN))) (jg_name 0 (fun _ => (show (nL5 : List Str).Nodup by decide +kernel)) (fun _ => Or.inl rfl)) jif_nil (JE.asD (j_add (JX.comp jx _ _) (JE.asD (j_add (JX.comp jx _ _) (JE.asD (j_sl (JX.comp jx _ _) (j_var 2) jo_none (jo_some (j_var 3)))) (j_ix (JX.comp jx _ _) (j_var 1) (j_op (fun _ => op_mod) od_mod (JE.asD (j_add (JX.comp jx _ _) (j_var 4) (j_var 0))) j_int)))) (JE.asD (j_sl (JX.comp jx _ _) (j_var 2) (jo_some (j_var 3)) jo_none))))))))))))
theorem ok_law_picked (T : Txt K mg A) : FnOk P w K mg base CX0 2 A.f_law_picked A.d_law_picked nL14 (SpP (bk K A) 2 f_law_picked) :=
  T.F_law_picked.okPJ sc_law_picked rfl fun jx =>
   (jb2_cons (js2_of (js_set 2 (L' := [1]) (fun _ => sc_law_picked.nd) (fun _ => (Or.inl rfl)) (j_callTy jx (b_list jx) T.z_list PyProof.Rows.Boot.«list» (ja_cons (j_var 1) ja_nil aN) aN)))
   (jb2_cons (js2_of (js_set 3 (L' := []) (fun _ => sc_law_picked.nd) (fun _ => (Or.inl rfl)) (j_lst ja_nil)))
   (jb2_cons (js2_of (js_while jx (jt_cmp (c_ne jx) (j_var 2) (JE.asD (j_lst ja_nil)) (nomark _))
    (show JB _ _ _ b_law_picked_0 from (jb_one (js_appPop jx 3 2 (jp_callP jx 0 (ok_law_take T) (by decide) T.m_law_take T.F_law_take.kp (b_law_take T) runP_len' (jpa_pure (ja_cons (JE.asD (j_callB jx (b_len jx) T.z_len PyProof.Rows.Boot.«len» (ja_cons (j_var 2) ja_nil aN) aN)) ja_nil aL))) aL)))))
   (jb2_one (js2_retV 3)))))
theorem ok_law_parts (T : Txt K mg A) : FnOk P w K mg base CX0 3 A.f_law_parts A.d_law_parts nL11 (SpP (bk K A) 1 f_law_parts) :=
  T.F_law_parts.okPJ sc_law_parts rfl fun jx =>
   (jb2_cons (js2_of (js_setP 1 (L' := []) (fun _ => sc_law_parts.nd) (fun _ => (Or.inl rfl)) (jp_callP jx 0 (ok_law_names T) (by decide) T.m_law_names T.F_law_names.kp (b_law_names T) runP_len' (jpa_cons (jp_add jx (jp_pure (JD.asE j_int)) (jp_callP jx 0 (ok_law_take T) (by decide) T.m_law_take T.F_law_take.kp (b_law_take T) runP_len' (jpa_pure (ja_cons j_int ja_nil aC)))) (jpa_pure ja_nil) aB))))
   (jb2_cons (js2_of (js_setP 2 (L' := [1]) (fun _ => sc_law_parts.nd) (fun _ => (Or.inl rfl)) (jp_callP jx 0 (ok_law_names T) (by decide) T.m_law_names T.F_law_names.kp (b_law_names T) runP_len' (jpa_cons (jp_add jx (jp_pure (JD.asE j_int)) (jp_callP jx 0 (ok_law_take T) (by decide) T.m_law_take T.F_law_take.kp (b_law_take T) runP_len' (jpa_pure (ja_cons (j_ix jx (JE.asD (j_lst (ja_cons j_int (ja_cons j_int (ja_cons j_int (ja_cons j_int ja_nil aC) aC) aC) aC))) (j_op (fun _ => op_sub) od_sub (JE.asD (j_callB jx (b_len jx) T.z_len PyProof.Rows.Boot.«len» (ja_cons (j_var 1) ja_nil aN) aN)) j_int)) ja_nil aS)))) (jpa_pure ja_nil) aB))))
   (jb2_cons (js2_of (js_setP 3 (L' := [2]) (fun _ => sc_law_parts.nd) (fun _ => (Or.inl rfl)) (jp_callP jx 0 (ok_law_picked T) (by decide) T.m_law_picked T.F_law_picked.kp (b_law_picked T) runP_len' (jpa_pure (ja_cons (j_var 2) ja_nil aN)))))
   (jb2_cons (js2_of (js_set 4 (L' := []) (fun _ => sc_law_parts.nd) (fun _ => (Or.inl rfl)) (j_lst ja_nil)))
   (jb2_cons (js2_of (js_for jx (ji_rng1 jx T.z_range (ja_cons (JE.asD (j_callB jx (b_len jx) T.z_len PyProof.Rows.Boot.«len» (ja_cons (j_var 3) ja_nil aN) aN)) ja_nil aL)) (jg_name 5 (fun _ => sc_law_parts.nd) (fun _ => (Or.inl rfl)))
    (show JB _ _ _ b_law_parts_1 from (jb_one (js_for jx (ji_rng1 jx T.z_range (ja_cons (j_var 5) ja_nil aN)) (jg_name 6 (fun _ => sc_law_parts.nd) (fun _ => (Or.inl rfl)))
      (show JB _ _ _ b_law_parts_0 from (jb_one (js_ifP (jpt_cmp (c_eq jx) (jp_callP jx 0 (ok_law_take T) (by decide) T.m_law_take T.F_law_take.kp (b_law_take T) runP_len' (jpa_pure (ja_cons j_int ja_nil aC))) (jp_pure (JD.asE j_int)))
        (jb_one (js_app jx 4 (L' := [3, 5, 6]) (j_tup (ja_cons (j_ix jx (j_var 3) (j_var 6)) (ja_cons (j_ix jx (j_var 3) (j_var 5)) ja_nil aS) aS)) aT))
        jb_nil))))))))
   (jb2_one (js2_ret (p := 0) (L' := [1, 2, 4]) (jp_lst (jpa_cons (jp_pure (JD.asE (j_var 1))) (jpa_cons (jp_pure (JD.asE (j_var 2))) (jpa_cons (jp_callP jx 0 (ok_law_picked T) (by decide) T.m_law_picked T.F_law_picked.kp (b_law_picked T) runP_len' (jpa_pure (ja_cons (j_var 4) ja_nil aN))) (jpa_pure ja_nil) aL) aN) aN)))))))))
theorem ok_is_name (T : Txt K mg A) : FnOk P w K mg base CX0 1 A.f_is_name A.d_is_name ["thing"] (SpF (bk K A) 1 f_is_name) :=
  T.F_is_name.okJ sc_is_name rfl fun jx =>
   (jb_cons (js_if (jt_not (jt_val (JE.asD (j_callB jx (b_isi jx (tab_ok T)) T.z_isinstance PyProof.Rows.Boot.«isinstance» (ja_cons (j_var 0) (ja_cons (j_ty jx T.z_str PyProof.Rows.Boot.«str») ja_nil aN) aN) aN))))
    (jb_one (js_ret (JD.asE j_bl)))
    jb_nil)
   (jb_cons (js_if (JW.t (jw_or (jt_cmp c_lt (JE.asD (j_callB jx (b_len jx) T.z_len PyProof.Rows.Boot.«len» (ja_cons (j_var 0) ja_nil aN) aN)) j_int (nomark _)) (jw_or1 (jt_cmp c_gt (JE.asD (j_callB jx (b_len jx) T.z_len PyProof.Rows.Boot.«len» (ja_cons (j_var 0) ja_nil aN) aN)) (j_gcI jx T.c_LONGEST_NAME) (nomark _)))))
    (jb_one (js_ret (JD.asE j_bl)))
    jb_nil)
   (jb_one (js_ret (j_callB jx (b_all jx) T.z_all PyProof.Rows.Boot.«all» (ja_cons (JE.asD (j_comp jx (NX := ["thing"]) (SX := defScope s_is_name) (N := ["sign"]) (own := 1) (fi := []) ⟨rfl, by decide +kernel, by decide +kernel, by decide +kernel, rfl, by decide +kernel⟩ (jc_seq jx (j_var 0)) (jg_name 0 (fun _ => (show (["sign"] : List Str).Nodup by decide +kernel)) (fun _ => Or.inl rfl)) jif_nil (j_cmp (c_in (JX.comp jx _ _)) (j_var 0) (j_gcS (JX.comp jx _ _) T.c_LETTERS) rfl))) ja_nil aM) aM)))))
theorem ok_checked_names (T : Txt K mg A) : FnOk P w K mg base CX0 2 A.f_checked_names A.d_checked_names ["names", "most"] (SpF (bk K A) 2 f_checked_names) :=
  T.F_checked_names.okJ sc_checked_names rfl fun jx =>
   (jb_cons (js_if (JW.t (jw_or (jt_cmp c_lt (JE.asD (j_callB jx (b_len jx) T.z_len PyProof.Rows.Boot.«len» (ja_cons (j_var 0) ja_nil aN) aN)) j_int (nomark _)) (jw_or1 (jt_cmp c_gt (JE.asD (j_callB jx (b_len jx) T.z_len PyProof.Rows.Boot.«len» (ja_cons (j_var 0) ja_nil aN) aN)) (j_var 1) (nomark _)))))
    (jb_one js_never)
    jb_nil)
   (jb_cons (js_set 2 (L' := []) (fun _ => sc_checked_names.nd) (fun _ => (Or.inl rfl)) (j_lst ja_nil))
   (jb_cons (js_forV jx 0 (jg_name 3 (fun _ => sc_checked_names.nd) (fun _ => (Or.inl rfl)))
    (show JB _ _ _ b_checked_names_0 from (jb_cons (js_if (jt_not (jt_val (JE.asD (j_call jx (ok_is_name T) (by decide) T.m_is_name T.F_is_name.kp (b_is_name T) runF_len' (ja_cons (j_var 3) ja_nil aN) aN))))
      (jb_one js_never)
      jb_nil)
     (jb_cons (js_if (jt_cmp (c_in jx) (j_var 3) (j_var 2) rfl)
      (jb_one js_never)
      jb_nil)
     (jb_one (js_app jx 2 (L' := [3]) (j_var 3) aN))))))
   (jb_one (js_ret (j_callTy jx (b_tuple jx) T.z_tuple PyProof.Rows.Boot.«tuple» (ja_cons (j_var 2) ja_nil aN) aN))))))
theorem ok_is_among (T:Txt K mg A):FnOk P w K mg base CX0 1 A.f_is_among A.d_is_among nL22 (SpF (bk K A) 2 f_is_among):=
 T.F_is_among.okJ sc_is_among rfl fun jx=>
  (jb_one (js_ret (JD.asE (j_and (JE.asD (j_callB jx (b_isi jx (tab_ok T)) T.z_isinstance PyProof.Rows.Boot.«isinstance» (ja_cons (j_var 0) (ja_cons (j_ty jx T.z_str PyProof.Rows.Boot.«str») ja_nil aN) aN) aN)) (j_one (j_cmp (c_in jx) (j_var 0) (j_var 1) rfl))))))
theorem ok_bringing_by (T : Txt K mg A) : FnOk P w K mg base CX0 1 A.f_bringing_by A.d_bringing_by ["pairs", "role"] (SpF (bk K A) 2 f_bringing_by) :=
  T.F_bringing_by.okJ sc_bringing_by rfl fun jx =>
   (jb_cons (js_set 2 (L' := [1]) (fun _ => sc_bringing_by.nd) (fun _ => (Or.inl rfl)) (j_lst (ja_cons (j_var 1) ja_nil aN)))
   (jb_cons (js_set 3 (L' := []) (fun _ => sc_bringing_by.nd) (fun _ => (Or.inl rfl)) (JD.asE j_int))
   (jb_cons (js_while jx (jt_cmp c_lt (j_var 3) (JE.asD (j_callB jx (b_len jx) T.z_len PyProof.Rows.Boot.«len» (ja_cons (j_var 2) ja_nil aN) aN)) (nomark _))
    (show JB _ _ _ b_bringing_by_1 from (jb_cons (js_forV jx 0 (jg_seq jx (jgs_cons (jg_name 4 (fun _ => sc_bringing_by.nd) (fun _ => (Or.inl rfl))) (jgs_cons (jg_name 5 (fun _ => sc_bringing_by.nd) (fun _ => (Or.inl rfl))) jgs_nil)))
      (show JB _ _ _ b_bringing_by_0 from (jb_one (js_if (JW.t (jw_and (jt_cmp (c_eq jx) (j_var 5) (j_ix jx (j_var 2) (j_var 3)) (nomark _)) (jw_and1 (jt_cmp (c_notIn jx) (j_var 4) (j_var 2) rfl))))
        (jb_one (js_app jx 2 (L' := [4]) (j_var 4) aN))
        jb_nil))))
     (jb_one (js_set 3 (L' := [3]) (fun _ => sc_bringing_by.nd) (fun _ => (Or.inl rfl)) (j_add jx (j_var 3) j_int))))))
   (jb_one (js_retV 2)))))
theorem ok_checked_pairs (T : Txt K mg A) : FnOk P w K mg base CX0 2 A.f_checked_pairs A.d_checked_pairs ["pairs", "roles"] (SpF (bk K A) 2 f_checked_pairs) :=
  T.F_checked_pairs.okJ sc_checked_pairs rfl fun jx =>
   (jb_cons (js_if (jt_cmp c_gt (JE.asD (j_callB jx (b_len jx) T.z_len PyProof.Rows.Boot.«len» (ja_cons (j_var 0) ja_nil aN) aN)) (j_gcI jx T.c_MOST_PAIRS) (nomark _))
    (jb_one js_never)
    jb_nil)
   (jb_cons (js_set 2 (L' := []) (fun _ => sc_checked_pairs.nd) (fun _ => (Or.inl rfl)) (j_lst ja_nil))
   (jb_cons (js_forV jx 0 (jg_seq jx (jgs_cons (jg_name 3 (fun _ => sc_checked_pairs.nd) (fun _ => (Or.inl rfl))) (jgs_cons (jg_name 4 (fun _ => sc_checked_pairs.nd) (fun _ => (Or.inl rfl))) jgs_nil)))
    (show JB _ _ _ b_checked_pairs_0 from (jb_cons (js_if (jt_not (jt_val (JE.asD (j_call jx (ok_is_among T) (by decide) T.m_is_among T.F_is_among.kp (b_is_among T) runF_len' (ja_cons (j_var 3) (ja_cons (j_var 1) ja_nil aN) aN) aN))))
      (jb_one js_never)
      jb_nil)
     (jb_cons (js_if (jt_not (jt_val (JE.asD (j_call jx (ok_is_among T) (by decide) T.m_is_among T.F_is_among.kp (b_is_among T) runF_len' (ja_cons (j_var 4) (ja_cons (j_var 1) ja_nil aN) aN) aN))))
      (jb_one js_never)
      jb_nil)
     (jb_cons (js_if (jt_cmp (c_in jx) (j_tup (ja_cons (j_var 3) (ja_cons (j_var 4) ja_nil aN) aN)) (j_var 2) rfl)
      (jb_one js_never)
      jb_nil)
     (jb_cons (js_if (jt_cmp (c_in jx) (j_var 4) (JE.asD (j_call jx (ok_bringing_by T) (by decide) T.m_bringing_by T.F_bringing_by.kp (b_bringing_by T) runF_len' (ja_cons (j_var 2) (ja_cons (j_var 3) ja_nil aN) aN) aN)) rfl)
      (jb_one js_never)
      jb_nil)
     (jb_one (js_app jx 2 (L' := [3, 4]) (j_tup (ja_cons (j_var 3) (ja_cons (j_var 4) ja_nil aN) aN)) aT))))))))
   (jb_one (js_ret (j_callTy jx (b_tuple jx) T.z_tuple PyProof.Rows.Boot.«tuple» (ja_cons (j_var 2) ja_nil aN) aN))))))
theorem ok_bits_of_rights (T : Txt K mg A) : FnOk P w K mg base CX0 1 A.f_bits_of_rights A.d_bits_of_rights ["folk", "roles"] (SpF (bk K A) 2 f_bits_of_rights) :=
  T.F_bits_of_rights.okJ sc_bits_of_rights rfl fun jx =>
   (jb_cons (js_set 2 (L' := []) (fun _ => sc_bits_of_rights.nd) (fun _ => (Or.inl rfl)) j_newT)
   (jb_cons (js_set 3 (L' := []) (fun _ => sc_bits_of_rights.nd) (fun _ => (Or.inl rfl)) (JD.asE j_int))
   (jb_cons (js_forV jx 0 (jg_name 4 (fun _ => sc_bits_of_rights.nd) (fun _ => (Or.inl rfl)))
    (show JB _ _ _ b_bits_of_rights_1 from (jb_one (js_forV jx 1 (jg_name 5 (fun _ => sc_bits_of_rights.nd) (fun _ => (Or.inl rfl)))
      (show JB _ _ _ b_bits_of_rights_0 from (jb_cons (js_put jx 2 (L' := [3]) (j_tup (ja_cons (j_var 4) (ja_cons (j_var 5) ja_nil aN) aN)) (j_var 3))
       (jb_one (js_set 3 (L' := [3]) (fun _ => sc_bits_of_rights.nd) (fun _ => (Or.inl rfl)) (j_add jx (j_var 3) (j_var 3))))))))))
   (jb_one (js_retV 2)))))
theorem ok_bringers_of_roles (T : Txt K mg A) : FnOk P w K mg base CX0 2 A.f_bringers_of_roles A.d_bringers_of_roles ["roles", "pairs"] (SpF (bk K A) 2 f_bringers_of_roles) :=
  T.F_bringers_of_roles.okJ sc_bringers_of_roles rfl fun jx =>
   (jb_cons (js_set 2 (L' := []) (fun _ => sc_bringers_of_roles.nd) (fun _ => (Or.inl rfl)) j_newK)
   (jb_cons (js_forV jx 0 (jg_name 3 (fun _ => sc_bringers_of_roles.nd) (fun _ => (Or.inl rfl)))
    (show JB _ _ _ b_bringers_of_roles_0 from (jb_cons (js_set 4 (L' := [1, 3]) (fun _ => sc_bringers_of_roles.nd) (fun _ => (Or.inr rfl)) (j_call jx (ok_bringing_by T) (by decide) T.m_bringing_by T.F_bringing_by.kp (b_bringing_by T) runF_len' (ja_cons (j_var 1) (ja_cons (j_var 3) ja_nil aN) aN) aN))
     (jb_one (js_put jx 2 (L' := [0, 4]) (j_var 3) (JE.asD (j_callTy jx (b_tuple jx) T.z_tuple PyProof.Rows.Boot.«tuple» (ja_cons (JE.asD (j_comp jx (NX := nL15) (SX := defScope s_bringers_of_roles) (N := ["upper", "found"]) (own := 1) (fi := [4]) ⟨rfl, by decide +kernel, by decide +kernel, by decide +kernel, rfl, by decide +kernel⟩ (jc_seq jx (j_var 0)) (jg_name 0 (fun _ => (show (["upper", "found"] : List Str).Nodup by decide +kernel)) (fun _ => Or.inl rfl)) (jif_one (jt_cmp (c_in (JX.comp jx _ _)) (j_var 0) (j_var 1) rfl)) (j_var 0))) ja_nil aM) aM)))))))
   (jb_one (js_retV 2))))
theorem ok_Office__init_ (T : Txt K mg A) : FnOk P w K mg base CX0 3 A.f_Office__init_ A.d_Office__init_ nL4 (SpI (bk K A) 4 i_Office__init_) :=
  T.F_Office__init_.okIJ sc_Office__init_ rfl fun jx =>
   (jb_cons (js_fld jx 0 (L' := [1]) (fld_folk T) (JE.asD (j_call jx (ok_checked_names T) (by decide) T.m_checked_names T.F_checked_names.kp (b_checked_names T) runF_len' (ja_cons (j_var 1) (ja_cons (j_gcI jx T.c_MOST_FOLK) ja_nil aN) aN) aN)))
   (jb_cons (js_fld jx 0 (L' := [2]) (fld_roles T) (JE.asD (j_call jx (ok_checked_names T) (by decide) T.m_checked_names T.F_checked_names.kp (b_checked_names T) runF_len' (ja_cons (j_var 2) (ja_cons (j_gcI jx T.c_MOST_ROLES) ja_nil aN) aN) aN)))
   (jb_cons (js_if (jt_cmp c_gt (JE.asD (j_mul (JE.asD (j_callB jx (b_len jx) T.z_len PyProof.Rows.Boot.«len» (ja_cons (j_fldv jx 0 (fld_folk T) (j_var 0)) ja_nil aA) aA)) (JE.asD (j_callB jx (b_len jx) T.z_len PyProof.Rows.Boot.«len» (ja_cons (j_fldv jx 0 (fld_roles T) (j_var 0)) ja_nil aA) aA)))) (j_gcI jx T.c_MOST_BITS) (nomark _))
    (jb_one js_never)
    jb_nil)
   (jb_cons (js_fld jx 0 (L' := [3]) (fld_pairs T) (JE.asD (j_call jx (ok_checked_pairs T) (by decide) T.m_checked_pairs T.F_checked_pairs.kp (b_checked_pairs T) runF_len' (ja_cons (j_var 3) (ja_cons (j_fldv jx 0 (fld_roles T) (j_var 0)) ja_nil aA) aN) aN)))
   (jb_cons (js_fld jx 0 (L' := []) (fld_right_bits T) (j_frz (j_call jx (ok_bits_of_rights T) (by decide) T.m_bits_of_rights T.F_bits_of_rights.kp (b_bits_of_rights T) runF_len' (ja_cons (j_fldv jx 0 (fld_folk T) (j_var 0)) (ja_cons (j_fldv jx 0 (fld_roles T) (j_var 0)) ja_nil aA) aA) aA)))
   (jb_one (js_fld jx 0 (L' := []) (fld_bringers T) (JE.asD (j_call jx (ok_bringers_of_roles T) (by decide) T.m_bringers_of_roles T.F_bringers_of_roles.kp (b_bringers_of_roles T) runF_len' (ja_cons (j_fldv jx 0 (fld_roles T) (j_var 0)) (ja_cons (j_fldv jx 0 (fld_pairs T) (j_var 0)) ja_nil aA) aA) aA)))))))))
theorem ok_law_rights (T : Txt K mg A) : FnOk P w K mg base CX0 1 A.f_law_rights A.d_law_rights nL9 (SpF (bk K A) 3 f_law_rights) :=
  T.F_law_rights.okJ sc_law_rights rfl fun jx =>
   (jb_cons (js_set 3 (L' := []) (fun _ => sc_law_rights.nd) (fun _ => (Or.inl rfl)) (j_lst ja_nil))
   (jb_cons (js_set 4 (L' := []) (fun _ => sc_law_rights.nd) (fun _ => (Or.inl rfl)) (JD.asE j_int))
   (jb_cons (js_forV jx 0 (jg_name 5 (fun _ => sc_law_rights.nd) (fun _ => (Or.inl rfl)))
    (show JB _ _ _ b_law_rights_1 from (jb_one (js_forV jx 1 (jg_name 6 (fun _ => sc_law_rights.nd) (fun _ => (Or.inl rfl)))
      (show JB _ _ _ b_law_rights_0 from (jb_cons (js_if (jt_cmp (c_eq jx) (j_op (fun _ => op_and) od_and (j_op (fun _ => op_shr) od_shr (j_var 2) (j_var 4)) j_int) j_int (nomark _))
        (jb_one (js_app jx 3 (L' := [5, 6]) (j_tup (ja_cons (j_var 5) (ja_cons (j_var 6) ja_nil aN) aN)) aT))
        jb_nil)
       (jb_one (js_set 4 (L' := [4]) (fun _ => sc_law_rights.nd) (fun _ => (Or.inl rfl)) (j_add jx (j_var 4) j_int)))))))))
   (jb_one (js_retV 3)))))
theorem ok_is_whole (T:Txt K mg A):FnOk P w K mg base CX0 1 A.f_is_whole A.d_is_whole ["thing"] (SpF (bk K A) 1 f_is_whole):=
 T.F_is_whole.okJ sc_is_whole rfl fun jx=>
  (jb_one (js_ret (JD.asE (j_and (JE.asD (j_callB jx (b_isi jx (tab_ok T)) T.z_isinstance PyProof.Rows.Boot.«isinstance» (ja_cons (j_var 0) (ja_cons (j_ty jx T.z_int PyProof.Rows.Boot.«int») ja_nil aN) aN) aN)) (j_one (j_not (JE.asD (j_callB jx (b_isi jx (tab_ok T)) T.z_isinstance PyProof.Rows.Boot.«isinstance» (ja_cons (j_var 0) (ja_cons (j_ty jx T.z_bool PyProof.Rows.Boot.«bool») ja_nil aN) aN) aN))))))))
theorem ok_Office_bits (T:Txt K mg A):FnOk P w K mg base CX0 1 A.f_Office_bits A.d_Office_bits ["self"] (SpF (bk K A) 1 f_Office_bits):=
 T.F_Office_bits.okJ sc_Office_bits rfl fun jx=>
  (jb_one (js_ret (j_callB jx (b_len jx) T.z_len PyProof.Rows.Boot.«len» (ja_cons (j_fldv jx 0 (fld_right_bits T) (j_var 0)) ja_nil aA) aA)))
theorem ok_Office_is_state (T:Txt K mg A):FnOk P w K mg base CX0 2 A.f_Office_is_state A.d_Office_is_state nL1 (SpF (bk K A) 2 f_Office_is_state):=
 T.F_Office_is_state.okJ sc_Office_is_state rfl fun jx=>
  (jb_one (js_ret (JD.asE (j_and (JE.asD (j_call jx (ok_is_whole T) (by decide) T.m_is_whole T.F_is_whole.kp (b_is_whole T) runF_len' (ja_cons (j_var 1) ja_nil aN) aN)) (j_and (j_cmp c_ge (j_var 1) j_int (nomark _)) (j_one (j_cmp c_le (JE.asD (j_bm0 jx mm_bitlen (j_var 1))) (JE.asD (j_meth0 jx (cn:=0) (j_var 0) T.cl_Office T.me_Office_bits (ok_Office_bits T) (by decide) (b_Office_bits T) rfl runF_len')) (nomark _))))))))
theorem ok_Office_must_be_state (T : Txt K mg A) : FnOk P w K mg base CX0 3 A.f_Office_must_be_state A.d_Office_must_be_state nL1 (SpF (bk K A) 2 f_Office_must_be_state) :=
  T.F_Office_must_be_state.okJ sc_Office_must_be_state rfl fun jx =>
   (jb_one (js_if (jt_not (jt_val (JE.asD (j_meth jx (cn := 0) (j_var 0) T.cl_Office T.me_Office_is_state (ok_Office_is_state T) (by decide) (b_Office_is_state T) rfl runF_len' (ja_cons (j_var 1) ja_nil aN) aN))))
    (jb_one js_never)
    jb_nil))
theorem ok_Office_rights (T : Txt K mg A) : FnOk P w K mg base CX0 4 A.f_Office_rights A.d_Office_rights nL20 (SpF (bk K A) 2 f_Office_rights) :=
  T.F_Office_rights.okJ sc_Office_rights rfl fun jx =>
   (jb_cons (js_do (j_meth jx (cn := 0) (j_var 0) T.cl_Office T.me_Office_must_be_state (ok_Office_must_be_state T) (by decide) (b_Office_must_be_state T) rfl runF_len' (ja_cons (j_var 1) ja_nil aN) aN))
   (jb_one (js_ret (j_comp jx (NX := nL20) (SX := defScope s_Office_rights) (N := nL21) (own := 2) (fi := [1]) ⟨rfl, by decide +kernel, by decide +kernel, by decide +kernel, rfl, by decide +kernel⟩ (jc_items (j_fldv jx 0 (fld_right_bits T) (j_var 0))) (jg_seq (JX.comp jx _ _) (jgs_cons (jg_name 0 (fun _ => (show (nL21 : List Str).Nodup by decide +kernel)) (fun _ => Or.inl rfl)) (jgs_cons (jg_name 1 (fun _ => (show (nL21 : List Str).Nodup by decide +kernel)) (fun _ => Or.inl rfl)) jgs_nil))) (jif_one (jt_cmp (c_ne (JX.comp jx _ _)) (j_op (fun _ => op_and) od_and (j_var 2) (j_var 1)) j_int (nomark _))) (j_var 0)))))
theorem ok_Office_must_be_role (T : Txt K mg A) : FnOk P w K mg base CX0 2 A.f_Office_must_be_role A.d_Office_must_be_role nL1 (SpF (bk K A) 2 f_Office_must_be_role) :=
  T.F_Office_must_be_role.okJ sc_Office_must_be_role rfl fun jx =>
   (jb_one (js_if (jt_not (jt_val (JE.asD (j_call jx (ok_is_among T) (by decide) T.m_is_among T.F_is_among.kp (b_is_among T) runF_len' (ja_cons (j_var 1) (ja_cons (j_fldv jx 0 (fld_roles T) (j_var 0)) ja_nil aA) aN) aN))))
    (jb_one js_never)
    jb_nil))
theorem ok_Office_holders (T : Txt K mg A) : FnOk P w K mg base CX0 4 A.f_Office_holders A.d_Office_holders nL8 (SpF (bk K A) 3 f_Office_holders) :=
  T.F_Office_holders.okJ sc_Office_holders rfl fun jx =>
   (jb_cons (js_do (j_meth jx (cn := 0) (j_var 0) T.cl_Office T.me_Office_must_be_state (ok_Office_must_be_state T) (by decide) (b_Office_must_be_state T) rfl runF_len' (ja_cons (j_var 1) ja_nil aN) aN))
   (jb_cons (js_do (j_meth jx (cn := 0) (j_var 0) T.cl_Office T.me_Office_must_be_role (ok_Office_must_be_role T) (by decide) (b_Office_must_be_role T) rfl runF_len' (ja_cons (j_var 2) ja_nil aN) aN))
   (jb_one (js_ret (j_comp jx (NX := nL8) (SX := defScope s_Office_holders) (N := ["who", "self", "state", "role"]) (own := 1) (fi := [0, 1, 2]) ⟨rfl, by decide +kernel, by decide +kernel, by decide +kernel, rfl, by decide +kernel⟩ (jc_seq jx (j_fldv jx 0 (fld_folk T) (j_var 0))) (jg_name 0 (fun _ => (show (["who", "self", "state", "role"] : List Str).Nodup by decide +kernel)) (fun _ => Or.inl rfl)) (jif_one (jt_cmp (c_ne (JX.comp jx _ _)) (j_op (fun _ => op_and) od_and (j_var 2) (j_get (JX.comp jx _ _) (j_fldv (JX.comp jx _ _) 1 (fld_right_bits T) (j_var 1)) (j_tup (ja_cons (j_var 0) (ja_cons (j_var 3) ja_nil aN) aN)))) j_int (nomark _))) (j_var 0))))))
theorem ok_Office_must_be_folk (T : Txt K mg A) : FnOk P w K mg base CX0 2 A.f_Office_must_be_folk A.d_Office_must_be_folk nL1 (SpF (bk K A) 2 f_Office_must_be_folk) :=
  T.F_Office_must_be_folk.okJ sc_Office_must_be_folk rfl fun jx =>
   (jb_one (js_if (jt_not (jt_val (JE.asD (j_call jx (ok_is_among T) (by decide) T.m_is_among T.F_is_among.kp (b_is_among T) runF_len' (ja_cons (j_var 1) (ja_cons (j_fldv jx 0 (fld_folk T) (j_var 0)) ja_nil aA) aN) aN))))
    (jb_one js_never)
    jb_nil))
theorem ok_Office_bit (T : Txt K mg A) : FnOk P w K mg base CX0 3 A.f_Office_bit A.d_Office_bit nL16 (SpF (bk K A) 3 f_Office_bit) :=
  T.F_Office_bit.okJ sc_Office_bit rfl fun jx =>
   (jb_cons (js_do (j_meth jx (cn := 0) (j_var 0) T.cl_Office T.me_Office_must_be_folk (ok_Office_must_be_folk T) (by decide) (b_Office_must_be_folk T) rfl runF_len' (ja_cons (j_var 1) ja_nil aN) aN))
   (jb_cons (js_do (j_meth jx (cn := 0) (j_var 0) T.cl_Office T.me_Office_must_be_role (ok_Office_must_be_role T) (by decide) (b_Office_must_be_role T) rfl runF_len' (ja_cons (j_var 2) ja_nil aN) aN))
   (jb_one (js_ret (JD.asE (j_get jx (j_fldv jx 0 (fld_right_bits T) (j_var 0)) (j_tup (ja_cons (j_var 1) (ja_cons (j_var 2) ja_nil aN) aN))))))))
theorem ok_law_bits (T : Txt K mg A) : FnOk P w K mg base CX0 4 A.f_law_bits A.d_law_bits nL6 (SpF (bk K A) 3 f_law_bits) :=
  T.F_law_bits.okJ sc_law_bits rfl fun jx =>
   (jb_cons (js_for jx (ji_enum jx T.z_enumerate PyProof.Rows.Boot.«enumerate» (ja_cons (j_var 1) ja_nil aN)) (jg_seq jx (jgs_cons (jg_name 3 (fun _ => sc_law_bits.nd) (fun _ => (Or.inl rfl))) (jgs_cons (jg_name 4 (fun _ => sc_law_bits.nd) (fun _ => (Or.inl rfl))) jgs_nil)))
    (show JB _ _ _ b_law_bits_1 from (jb_one (js_for jx (ji_enum jx T.z_enumerate PyProof.Rows.Boot.«enumerate» (ja_cons (j_var 2) ja_nil aN)) (jg_seq jx (jgs_cons (jg_name 5 (fun _ => sc_law_bits.nd) (fun _ => (Or.inl rfl))) (jgs_cons (jg_name 6 (fun _ => sc_law_bits.nd) (fun _ => (Or.inl rfl))) jgs_nil)))
      (show JB _ _ _ b_law_bits_0 from (jb_cons (js_set 7 (L' := [0, 4, 6]) (fun _ => sc_law_bits.nd) (fun _ => (Or.inl rfl)) (j_meth jx (cn := 0) (j_var 0) T.cl_Office T.me_Office_bit (ok_Office_bit T) (by decide) (b_Office_bit T) rfl runF_len' (ja_cons (j_var 4) (ja_cons (j_var 6) ja_nil aN) aN) aN))
       (jb_one (js_if (JW.t (jw_or (jt_not (jt_val (JE.asD (j_callB jx (b_isi jx (tab_ok T)) T.z_isinstance PyProof.Rows.Boot.«isinstance» (ja_cons (j_var 7) (ja_cons (j_ty jx T.z_int PyProof.Rows.Boot.«int») ja_nil aN) aN) aN)))) (jw_or (jt_val (JE.asD (j_callB jx (b_isi jx (tab_ok T)) T.z_isinstance PyProof.Rows.Boot.«isinstance» (ja_cons (j_var 7) (ja_cons (j_ty jx T.z_bool PyProof.Rows.Boot.«bool») ja_nil aN) aN) aN))) (jw_or1 (jt_cmp (c_ne jx) (j_var 7) (j_op (fun _ => op_shl) od_shl j_int (JE.asD (j_add jx (JE.asD (j_mul (j_var 3) (JE.asD (j_callB jx (b_len jx) T.z_len PyProof.Rows.Boot.«len» (ja_cons (j_var 2) ja_nil aN) aN)))) (j_var 5)))) (nomark _))))))
        (jb_one (js_ret (JD.asE j_bl)))
        jb_nil))))))))
   (jb_one (js_ret (JD.asE (j_cmp (c_eq jx) (JE.asD (j_meth0 jx (cn := 0) (j_var 0) T.cl_Office T.me_Office_bits (ok_Office_bits T) (by decide) (b_Office_bits T) rfl runF_len')) (JE.asD (j_mul (JE.asD (j_callB jx (b_len jx) T.z_len PyProof.Rows.Boot.«len» (ja_cons (j_var 1) ja_nil aN) aN)) (JE.asD (j_callB jx (b_len jx) T.z_len PyProof.Rows.Boot.«len» (ja_cons (j_var 2) ja_nil aN) aN)))) (nomark _))))))
theorem ok_law_states (T : Txt K mg A) : FnOk P w K mg base CX0 3 A.f_law_states A.d_law_states nL7 (SpF (bk K A) 3 f_law_states) :=
  T.F_law_states.okJ sc_law_states rfl fun jx =>
   (jb_cons (js_setcomp jx 3 (L' := [0, 1, 2]) (fun _ => sc_law_states.nd) (NX := nL3) (SX := defScope s_law_states) (N := nL10) (own := 1) (fi := [0]) ⟨rfl, by decide +kernel, by decide +kernel, by decide +kernel, rfl, by decide +kernel⟩ (jc_seq jx (JE.asD (j_lst (ja_cons (j_var 1) (ja_cons j_int (ja_cons (j_op (fun _ => op_sub) od_sub (JE.asD (j_mul j_int (j_op (fun _ => op_shl) od_shl j_int (j_op (fun _ => op_sub) od_sub (j_var 2) j_int)))) j_int) ja_nil aB) aC) aN)))) (jg_name 0 (fun _ => (show (nL10 : List Str).Nodup by decide +kernel)) (fun _ => Or.inl rfl)) jif_nil (JE.asD (j_meth (JX.comp jx _ _) (cn := 0) (j_var 1) T.cl_Office T.me_Office_is_state (ok_Office_is_state T) (by decide) (b_Office_is_state T) rfl runF_len' (ja_cons (j_var 0) ja_nil aN) aN)))
   (jb_cons (js_setcomp jx 4 (L' := [0, 1, 2]) (fun _ => sc_law_states.nd) (NX := nL3) (SX := defScope s_law_states) (N := nL10) (own := 1) (fi := [0]) ⟨rfl, by decide +kernel, by decide +kernel, by decide +kernel, rfl, by decide +kernel⟩ (jc_seq jx (JE.asD (j_lst (ja_cons (j_op (fun _ => op_shl) od_shl j_int (j_var 2)) (ja_cons (j_neg j_int) (ja_cons (j_op (fun _ => op_sub) od_sub (j_op (fun _ => op_sub) od_sub j_int (j_var 1)) j_int) (ja_cons j_bl (ja_cons j_bl (ja_cons j_non (ja_cons j_str (ja_cons (JE.asD (j_lst (ja_cons j_int ja_nil aC))) (ja_cons (j_tup (ja_cons j_int ja_nil aC)) ja_nil aT) aK) aC) aC) aC) aC) aB) aU) aB)))) (jg_name 0 (fun _ => (show (nL10 : List Str).Nodup by decide +kernel)) (fun _ => Or.inl rfl)) jif_nil (JE.asD (j_meth (JX.comp jx _ _) (cn := 0) (j_var 1) T.cl_Office T.me_Office_is_state (ok_Office_is_state T) (by decide) (b_Office_is_state T) rfl runF_len' (ja_cons (j_var 0) ja_nil aN) aN)))
   (jb_one (js_ret (JD.asE (j_and (j_cmp (c_eq jx) (j_var 3) (JE.asD (j_mul (JE.asD (j_lst (ja_cons j_bl ja_nil aC))) j_int)) (nomark _)) (j_and (j_cmp (c_eq jx) (j_var 4) (JE.asD (j_mul (JE.asD (j_lst (ja_cons j_bl ja_nil aC))) j_int)) (nomark _)) (j_and (JE.asD (j_callB jx (b_isi jx (tab_ok T)) T.z_isinstance PyProof.Rows.Boot.«isinstance» (ja_cons (j_ix jx (j_var 3) j_int) (ja_cons (j_ty jx T.z_bool PyProof.Rows.Boot.«bool») ja_nil aN) aS) aS)) (j_one (JE.asD (j_callB jx (b_isi jx (tab_ok T)) T.z_isinstance PyProof.Rows.Boot.«isinstance» (ja_cons (j_ix jx (j_var 4) j_int) (ja_cons (j_ty jx T.z_bool PyProof.Rows.Boot.«bool») ja_nil aN) aS) aS)))))))))))
theorem ok_Office_state_of (T : Txt K mg A) : FnOk P w K mg base CX0 4 A.f_Office_state_of A.d_Office_state_of ["self", "rights"] (SpF (bk K A) 2 f_Office_state_of) :=
  T.F_Office_state_of.okJ sc_Office_state_of rfl fun jx =>
   (jb_cons (js_set 2 (L' := []) (fun _ => sc_Office_state_of.nd) (fun _ => (Or.inl rfl)) (JD.asE j_int))
   (jb_cons (js_forV jx 1 (jg_seq jx (jgs_cons (jg_name 3 (fun _ => sc_Office_state_of.nd) (fun _ => (Or.inl rfl))) (jgs_cons (jg_name 4 (fun _ => sc_Office_state_of.nd) (fun _ => (Or.inl rfl))) jgs_nil)))
    (show JB _ _ _ b_Office_state_of_0 from (jb_one (js_set 2 (L' := [0, 2, 3, 4]) (fun _ => sc_Office_state_of.nd) (fun _ => (Or.inl rfl)) (JD.asE (j_op (fun _ => op_or) od_or (j_var 2) (JE.asD (j_meth jx (cn := 0) (j_var 0) T.cl_Office T.me_Office_bit (ok_Office_bit T) (by decide) (b_Office_bit T) rfl runF_len' (ja_cons (j_var 3) (ja_cons (j_var 4) ja_nil aN) aN) aN))))))))
   (jb_one (js_retV 2))))
theorem ok_law_right (T : Txt K mg A) : FnOk P w K mg base CX0 5 A.f_law_right A.d_law_right nL11 (SpT (bk K A) 1 f_law_right) :=
  T.F_law_right.okTJ sc_law_right rfl fun jx =>
   (jb_cons (js_asgP (L' := []) (jp_callP jx 0 (ok_law_parts T) (by decide) T.m_law_parts T.F_law_parts.kp (b_law_parts T) runP_len' (jpa_pure ja_nil)) (jg_seq jx (jgs_cons (jg_name 1 (fun _ => sc_law_right.nd) (fun _ => (Or.inl rfl))) (jgs_cons (jg_name 2 (fun _ => sc_law_right.nd) (fun _ => (Or.inl rfl))) (jgs_cons (jg_name 3 (fun _ => sc_law_right.nd) (fun _ => (Or.inl rfl))) jgs_nil)))))
   (jb_cons (js_set 4 (L' := [1, 2, 3]) (fun _ => sc_law_right.nd) (fun _ => (Or.inl rfl)) (j_make jx (cn := 0) T.M_Office (ok_Office__init_ T) (by decide) T.mg_Office (b_Office__init_ T) rfl runI_len' (ja_cons (j_var 1) (ja_cons (j_var 2) (ja_cons (j_var 3) ja_nil aN) aN) aN) aN))
   (jb_cons (js_set 5 (L' := [1, 2]) (fun _ => sc_law_right.nd) (fun _ => (Or.inl rfl)) (j_mul (JE.asD (j_callB jx (b_len jx) T.z_len PyProof.Rows.Boot.«len» (ja_cons (j_var 1) ja_nil aN) aN)) (JE.asD (j_callB jx (b_len jx) T.z_len PyProof.Rows.Boot.«len» (ja_cons (j_var 2) ja_nil aN) aN))))
   (jb_cons (js_setP 6 (L' := [5]) (fun _ => sc_law_right.nd) (fun _ => (Or.inl rfl)) (jp_callP jx 0 (ok_law_take T) (by decide) T.m_law_take T.F_law_take.kp (b_law_take T) runP_len' (jpa_pure (ja_cons (j_op (fun _ => op_shl) od_shl j_int (j_var 5)) ja_nil aB))))
   (jb_cons (js_set 7 (L' := [1, 2, 6]) (fun _ => sc_law_right.nd) (fun _ => (Or.inr rfl)) (j_call jx (ok_law_rights T) (by decide) T.m_law_rights T.F_law_rights.kp (b_law_rights T) runF_len' (ja_cons (j_var 1) (ja_cons (j_var 2) (ja_cons (j_var 6) ja_nil aN) aN) aN) aN))
   (jb_cons (js_if (JW.t (jw_or (jt_not (jt_val (JE.asD (j_call jx (ok_law_bits T) (by decide) T.m_law_bits T.F_law_bits.kp (b_law_bits T) runF_len' (ja_cons (j_var 4) (ja_cons (j_var 1) (ja_cons (j_var 2) ja_nil aN) aN) aN) aN)))) (jw_or1 (jt_not (jt_val (JE.asD (j_call jx (ok_law_states T) (by decide) T.m_law_states T.F_law_states.kp (b_law_states T) runF_len' (ja_cons (j_var 4) (ja_cons (j_var 6) (ja_cons (j_var 5) ja_nil aN) aN) aN) aN)))))))
    (jb_one (js_ret (JD.asE j_bl)))
    jb_nil)
   (jb_cons (js_set 8 (L' := [4, 6]) (fun _ => sc_law_right.nd) (fun _ => (Or.inl rfl)) (j_meth jx (cn := 0) (j_var 4) T.cl_Office T.me_Office_rights (ok_Office_rights T) (by decide) (b_Office_rights T) rfl runF_len' (ja_cons (j_var 6) ja_nil aN) aN))
   (jb_cons (js_if (JW.t (jw_or (jt_not (jt_val (JE.asD (j_callB jx (b_isi jx (tab_ok T)) T.z_isinstance PyProof.Rows.Boot.«isinstance» (ja_cons (j_var 8) (ja_cons (j_ty jx T.z_list PyProof.Rows.Boot.«list») ja_nil aN) aN) aN)))) (jw_or1 (jt_cmp (c_ne jx) (j_var 8) (j_var 7) (nomark _)))))
    (jb_one (js_ret (JD.asE j_bl)))
    jb_nil)
   (jb_cons (js_app jx 8 (L' := []) j_int aC)
   (jb_cons (js_setP 9 (L' := [7]) (fun _ => sc_law_right.nd) (fun _ => (Or.inl rfl)) (jp_callP jx 0 (ok_law_picked T) (by decide) T.m_law_picked T.F_law_picked.kp (b_law_picked T) runP_len' (jpa_cons (jp_add jx (jp_pure (JD.asE (j_var 7))) (jp_sl jx (jp_pure (JD.asE (j_var 7))) (jpo_pure jo_none) (jpo_some (jp_callP jx 0 (ok_law_take T) (by decide) T.m_law_take T.F_law_take.kp (b_law_take T) runP_len' (jpa_pure (ja_cons j_int ja_nil aC)))))) (jpa_pure ja_nil) aB)))
   (jb_cons (js_set 10 (L' := [9]) (fun _ => sc_law_right.nd) (fun _ => (Or.inl rfl)) (j_callTy jx (b_list jx) T.z_list PyProof.Rows.Boot.«list» (ja_cons (j_var 9) ja_nil aN) aN))
   (jb_cons (js_if (JW.t (jw_or (jt_cmp (c_ne jx) (JE.asD (j_meth jx (cn := 0) (j_var 4) T.cl_Office T.me_Office_state_of (ok_Office_state_of T) (by decide) (b_Office_state_of T) rfl runF_len' (ja_cons (j_var 9) ja_nil aN) aN)) (j_var 6) (nomark _)) (jw_or (jt_cmp (c_ne jx) (JE.asD (j_meth jx (cn := 0) (j_var 4) T.cl_Office T.me_Office_state_of (ok_Office_state_of T) (by decide) (b_Office_state_of T) rfl runF_len' (ja_cons (JE.asD (j_callTy jx (b_tuple jx) T.z_tuple PyProof.Rows.Boot.«tuple» (ja_cons (j_var 9) ja_nil aN) aN)) ja_nil aL) aL)) (j_var 6) (nomark _)) (jw_or1 (jt_cmp (c_ne jx) (j_var 9) (j_var 10) (nomark _))))))
    (jb_one (js_ret (JD.asE j_bl)))
    jb_nil)
   (jb_cons (js_forV jx 2 (jg_name 11 (fun _ => sc_law_right.nd) (fun _ => (Or.inr rfl)))
    (show JB _ _ _ b_law_right_0 from (jb_cons (js_set 8 (L' := [4, 6, 11]) (fun _ => sc_law_right.nd) (fun _ => (Or.inl rfl)) (j_meth jx (cn := 0) (j_var 4) T.cl_Office T.me_Office_holders (ok_Office_holders T) (by decide) (b_Office_holders T) rfl runF_len' (ja_cons (j_var 6) (ja_cons (j_var 11) ja_nil aN) aN) aN))
     (jb_cons (js_if (JW.t (jw_or (jt_not (jt_val (JE.asD (j_callB jx (b_isi jx (tab_ok T)) T.z_isinstance PyProof.Rows.Boot.«isinstance» (ja_cons (j_var 8) (ja_cons (j_ty jx T.z_list PyProof.Rows.Boot.«list») ja_nil aN) aN) aN)))) (jw_or1 (jt_cmp (c_ne jx) (j_var 8) (JE.asD (j_comp jx (NX := nL0) (SX := defScope s_law_right) (N := nL19) (own := 1) (fi := [7, 11]) ⟨rfl, by decide +kernel, by decide +kernel, by decide +kernel, rfl, by decide +kernel⟩ (jc_seq jx (j_var 1)) (jg_name 0 (fun _ => (show (nL19 : List Str).Nodup by decide +kernel)) (fun _ => Or.inl rfl)) (jif_one (jt_cmp (c_in (JX.comp jx _ _)) (j_tup (ja_cons (j_var 0) (ja_cons (j_var 2) ja_nil aN) aN)) (j_var 1) rfl)) (j_var 0))) (nomark _)))))
      (jb_one (js_ret (JD.asE j_bl)))
      jb_nil)
     (jb_cons (js_app jx 8 (L' := []) j_str aC)
     (jb_one (js_if (jt_cmp (c_ne jx) (JE.asD (j_meth jx (cn := 0) (j_var 4) T.cl_Office T.me_Office_holders (ok_Office_holders T) (by decide) (b_Office_holders T) rfl runF_len' (ja_cons (j_var 6) (ja_cons (j_var 11) ja_nil aN) aN) aN)) (JE.asD (j_sl jx (j_var 8) jo_none (jo_some (j_neg j_int)))) (nomark _))
      (jb_one (js_ret (JD.asE j_bl)))
      jb_nil)))))))
   (jb_one (js_ret (JD.asE (j_cmp (c_eq jx) (JE.asD (j_meth jx (cn := 0) (j_var 4) T.cl_Office T.me_Office_rights (ok_Office_rights T) (by decide) (b_Office_rights T) rfl runF_len' (ja_cons (j_var 6) ja_nil aN) aN)) (j_var 7) (nomark _))))))))))))))))))
theorem ok_law_rich (T : Txt K mg A) : FnOk P w K mg base CX0 1 A.f_law_rich A.d_law_rich ["_law_cell"] (SpF (bk K A) 1 f_law_rich) :=
  T.F_law_rich.okJ sc_law_rich rfl fun jx =>
   (jb_cons (js_set 1 (L' := [0]) (fun _ => sc_law_rich.nd) (fun _ => (Or.inl rfl)) (JD.asE (j_op (fun _ => op_mod) od_mod (j_var 0) j_int)))
   (jb_cons (js_set 2 (L' := []) (fun _ => sc_law_rich.nd) (fun _ => (Or.inl rfl)) (JD.asE j_int))
   (jb_cons (js_for jx (ji_rng1 jx T.z_range (ja_cons j_int ja_nil aC)) (jg_name 3 (fun _ => sc_law_rich.nd) (fun _ => (Or.inl rfl)))
    (show JB _ _ _ b_law_rich_0 from (jb_cons (js_set 1 (L' := [1, 3]) (fun _ => sc_law_rich.nd) (fun _ => (Or.inl rfl)) (JD.asE (j_op (fun _ => op_mod) od_mod (JE.asD (j_add jx (JE.asD (j_add jx (JE.asD (j_add jx (JE.asD (j_mul (j_var 1) (j_var 1))) (JE.asD (j_mul j_int (j_var 1))))) (JE.asD (j_mul j_int (j_var 3))))) j_int)) j_int)))
     (jb_one (js_set 2 (L' := [1, 2]) (fun _ => sc_law_rich.nd) (fun _ => (Or.inl rfl)) (j_add jx (JE.asD (j_mul (j_var 2) j_int)) (j_op (fun _ => op_mod) od_mod (JE.asD (j_mul (JE.asD (j_add jx (j_var 1) j_int)) (JE.asD (j_add jx (j_var 1) j_int)))) j_int)))))))
   (jb_one (js_retV 2)))))
theorem ok_law_purse (T : Txt K mg A) : FnOk P w K mg base CX0 2 A.f_law_purse A.d_law_purse nL12 (SpF (bk K A) 2 f_law_purse) :=
  T.F_law_purse.okJ sc_law_purse rfl fun jx =>
   (jb_cons (js_set 2 (L' := []) (fun _ => sc_law_purse.nd) (fun _ => (Or.inl rfl)) (JD.asE j_int))
   (jb_cons (js_if (jt_cmp c_lt (j_var 1) (JE.asD (j_callB jx (b_len jx) T.z_len PyProof.Rows.Boot.«len» (ja_cons (j_var 0) ja_nil aN) aN)) (nomark _))
    (jb_one (js_set 2 (L' := [0, 1]) (fun _ => sc_law_purse.nd) (fun _ => (Or.inl rfl)) (JD.asE (j_ix jx (j_var 0) (j_var 1)))))
    jb_nil)
   (jb_cons (js_if (jt_cmp (c_eq jx) (j_op (fun _ => op_mod) od_mod (j_var 2) j_int) j_int (nomark _))
    (jb_one (js_ret (j_lst (ja_cons (j_op (fun _ => op_fdivB) od_fdiv (j_var 2) j_int) (ja_cons (JE.asD (j_call jx (ok_law_rich T) (by decide) T.m_law_rich T.F_law_rich.kp (b_law_rich T) runF_len' (ja_cons (j_var 2) ja_nil aN) aN)) ja_nil aL) aB))))
    jb_nil)
   (jb_one (js_ret (j_lst (ja_cons (JE.asD (j_call jx (ok_law_rich T) (by decide) T.m_law_rich T.F_law_rich.kp (b_law_rich T) runF_len' (ja_cons (j_var 2) ja_nil aN) aN)) ja_nil aL)))))))
theorem ok_law (T : Txt K mg A) : FnOk P w K mg base CX0 6 A.f_law A.d_law ["_law_script"] (SpF (bk K A) 1 f_law) :=
  T.F_law.okJ sc_law rfl fun jx =>
   (jb_cons (js_for jx (ji_rng1 jx T.z_range (ja_cons (JE.asD (j_callB jx (b_max jx) T.z_max PyProof.Rows.Boot.«max» (ja_cons j_int (ja_cons (JE.asD (j_callB jx (b_min jx) T.z_min PyProof.Rows.Boot.«min» (ja_cons (JE.asD (j_callB jx (b_len jx) T.z_len PyProof.Rows.Boot.«len» (ja_cons (j_var 0) ja_nil aN) aN)) (ja_cons j_int ja_nil aC) aL) aL)) ja_nil aL) aC) aC)) ja_nil aL)) (jg_name 1 (fun _ => sc_law.nd) (fun _ => (Or.inl rfl)))
    (show JB _ _ _ b_law_0 from (jb_one (js_if (jt_not (jt_val (JE.asD (j_callT jx (ok_law_right T) (by decide) T.m_law_right T.F_law_right.kp (b_law_right T) runT_len' (j_call jx (ok_law_purse T) (by decide) T.m_law_purse T.F_law_purse.kp (b_law_purse T) runF_len' (ja_cons (j_var 0) (ja_cons (j_var 1) ja_nil aN) aN) aN) aL))))
      (jb_one (js_ret (JD.asE j_bl)))
      jb_nil))))
   (jb_one (js_ret (JD.asE j_bl))))
end
end My
namespace My
open PySem L2 M1
@[simp] theorem kit_ss:kitB "str" "str"=some true:=rfl
@[simp] theorem kit_ii:kitB "int" "int"=some true:=rfl
@[simp] theorem kit_ib:kitB "int" "bool"=some false:=rfl
theorem small_len {z:Str} (h:z.length≤6):z.length≤sizeLine:=Nat.le_trans h (by rw [sl_big']; omega)
theorem signs (cs:List Nat) (h:∀ c∈cs,c∈codes):∀ x:Option D,compM (gN 0) mTrue (m2 oIn (mV 0) (mC (.str "abcdefghijklmnopqrstuvwxyz"))) (cs.map fun c=>.str ⟨#[c]⟩) [oD' x]=some (cs.map fun _=>.bl true):=by
 induction cs with
 | nil=>intro x; rfl
 | cons c cs ih=>
  intro x
  have hc:inB (.str ⟨#[c]⟩) (.str "abcdefghijklmnopqrstuvwxyz")=some true:=congrArg some (inL_codes c (h c (by simp)))
  have i:=ih (fun y hy=>h y (by simp [hy])) (some (.str ⟨#[c]⟩))
  simp only [oD',Option.map_some] at i
  rw [List.map_cons,compM]
  simp [oIn,hc,i]
theorem asBs_true {α:Type} (cs:List α):asBs (cs.map fun _=>.bl true)=some (cs.map fun _=>true):=by
 induction cs with
 | nil=>rfl
 | cons c cs ih=>simp [ih]
theorem f_name {z:Str} (g:Good z):f_is_name [.str z]=some (.sh (.bl true)):=by
 have s:=signs z.cps.toList g.all none
 simp only [oD',Option.map_none] at s
 have hl:=small_len g.hi
 have h1:¬ ((z.length:Int) < 1):=by have:=g.lo; omega
 have h2:¬ ((6:Int) < (z.length:Int)):=by have:=g.hi; omega
 have hc:z.cps.size≤sizeLine:=hl
 have e1:fIsF tab [.str z,.ty "str"]=some (.sh (.bl true)):=rfl
 simp [f_is_name,runF,m_is_name,e1,hl,h1,h2,chars,hc,s,asBs_true]
theorem names_loop (s0 s1:Option SV):∀ (ys xs:List Str) (x:Option D),(xs++ys).Nodup→(∀ z∈xs++ys,Good z)→xs.length+ys.length < sizeLine→∃ y,
  loopM (gN 3) b_checked_names_0 (ys.map D.str) [s0,s1,some (.li (xs.map D.str)),oD' x]=.nx [s0,s1,some (.li ((xs++ys).map D.str)),oD' y]
 | [],xs,x,_,_,_=>⟨x,by simp [loopM]⟩
 | z :: ys,xs,x,nd,g,hl=>by
  simp only [List.length_cons] at hl
  have nd':((xs++[z])++ys).Nodup:=by simpa using nd
  obtain ⟨y,h⟩:=names_loop s0 s1 ys (xs++[z]) (some (.str z)) nd' (by simpa using g) (by simp; omega)
  refine ⟨y,?_⟩
  have gz:Good z:=g z (by simp)
  have hn:z∉xs:=by
   intro hz
   rw [List.nodup_append] at nd
   exact nd.2.2 z hz z (by simp) rfl
  have hi:=inLS gz.ok (zs:=xs) fun w hw=>(g w (by simp [hw])).ok
  rw [decide_eq_false hn] at hi
  have hx:xs.length < sizeLine:=by omega
  have e:xs++z :: ys=(xs++[z])++ys:=by simp
  rw [e,← h,List.map_cons,loopM]
  simp [b_checked_names_0,B_checked_names_0,f_name gz,oIn,hi,hx]
theorem f_names {zs:List Str} {n:Nat} (nd:zs.Nodup) (g:∀ z∈zs,Good z) (h1:1≤zs.length) (h2:zs.length≤n) (hn:n≤100):f_checked_names [.lst (zs.map D.str),.int n]=some (.sh (.tup (zs.map D.str))):=by
 obtain ⟨y,h⟩:=names_loop (some (.sh (.lst (zs.map D.str)))) (some (.sh (.int n))) zs [] none (by simpa using nd) (by simpa using g) (by rw [sl_big']; simp; omega)
 simp only [oD',Option.map_none,List.map_nil,List.nil_append] at h
 have c1:¬ ((zs.length:Int) < 1):=by omega
 have c2:¬ ((n:Int) < (zs.length:Int)):=by omega
 simp [f_checked_names,runF,m_checked_names,M_checked_names,c1,c2,h]
theorem f_among {z:Str} {zs:List Str} (hz:Ok z) (h:∀ x∈zs,Ok x):f_is_among [.str z,.tup (zs.map D.str)]=some (.sh (.bl (decide (z∈zs)))):=by
 have e1:fIsF tab [.str z,.ty "str"]=some (.sh (.bl true)):=rfl
 simp [f_is_among,runF,m_is_among,e1,oIn,inTS hz h]
def addUp (y:Str) (fs:List Str) (p:Pr):List Str:=if p.2=y∧p.1∉fs then fs++[p.1] else fs
def walkUp (y:Str) (ps:List Pr) (fs:List Str):List Str:=ps.foldl (addUp y) fs
theorem addUp_mem (y:Str) (fs:List Str) (p:Pr) (x:Str):x∈addUp y fs p↔x∈fs∨(p.2=y∧x=p.1):=by
 unfold addUp
 by_cases c:p.2=y∧p.1∉fs
 ·rw [if_pos c]
  simp only [List.mem_append,List.mem_singleton]
  constructor
  ·rintro (h | h)
   ·exact .inl h
   ·exact .inr ⟨c.1,h⟩
  ·rintro (h | ⟨_,h⟩)
   ·exact .inl h
   ·exact .inr h
 ·rw [if_neg c]
  constructor
  ·exact fun h=>.inl h
  ·rintro (h | ⟨h1,rfl⟩)
   ·exact h
   ·exact Classical.byContradiction fun n=>c ⟨h1,n⟩
theorem walkUp_mem (y:Str):∀ (ps:List Pr) (fs:List Str) (x:Str),x∈walkUp y ps fs↔x∈fs∨(x,y)∈ps
 | [],fs,x=>by simp [walkUp]
 | p :: ps,fs,x=>by
  rw [show walkUp y (p :: ps) fs=walkUp y ps (addUp y fs p) from rfl,walkUp_mem y ps,addUp_mem]
  constructor
  ·rintro ((h | ⟨h1,h2⟩) | h)
   ·exact .inl h
   ·exact .inr (by rw [h2,← h1]; simp)
   ·exact .inr (by simp [h])
  ·rintro (h | h)
   ·exact .inl (.inl h)
   ·rcases List.mem_cons.mp h with h | h
    ·exact .inl (.inr ⟨by rw [← h],by rw [← h]⟩)
    ·exact .inr h
theorem addUp_nodup {y:Str} {fs:List Str} {p:Pr} (h:fs.Nodup):(addUp y fs p).Nodup:=by
 unfold addUp
 split
 ·rename_i c
  rw [List.nodup_append]
  exact ⟨h,by simp,fun a ha b hb=>by rw [List.mem_singleton.mp hb]; rintro rfl; exact c.2 ha⟩
 ·exact h
theorem walkUp_nodup {y:Str}:∀ {ps:List Pr} {fs:List Str},fs.Nodup→(walkUp y ps fs).Nodup
 | [],_,h=>h
 | p :: ps,fs,h=>walkUp_nodup (ps:=ps) (addUp_nodup h)
theorem walkUp_pre {y:Str}:∀ (ps:List Pr) (fs:List Str),∃ r,walkUp y ps fs=fs++r
 | [],fs=>⟨[],by simp [walkUp]⟩
 | p :: ps,fs=>by
  obtain ⟨r,h⟩:=walkUp_pre (y:=y) ps (addUp y fs p)
  rw [show walkUp y (p :: ps) fs=walkUp y ps (addUp y fs p) from rfl,h]
  unfold addUp
  split
  ·exact ⟨p.1 :: r,by simp⟩
  ·exact ⟨r,rfl⟩
theorem up_loop (s0 s1:Option SV) (k:Nat) (y:Str) (hy:Ok y):∀ (ps:List Pr) (fs:List Str) (x4 x5:Option D),(∀ p∈ps,OkP p)→(∀ z∈fs,Ok z)→fs[k]? = some y→fs.length+ps.length < sizeLine→∃ y4 y5,
  loopM (gSq 2 (gCs (gN 4) (gCs (gN 5) gNs))) b_bringing_by_0 (ps.map pD) [s0,s1,some (.li (fs.map D.str)),some (.sh (.int k)),oD' x4,oD' x5]=.nx [s0,s1,some (.li ((walkUp y ps fs).map D.str)),some (.sh (.int k)),oD' y4,oD' y5]
 | [],fs,x4,x5,_,_,_,_=>⟨x4,x5,by simp [loopM,walkUp]⟩
 | p :: ps,fs,x4,x5,hp,hf,hk,hl=>by
  simp only [List.length_cons] at hl
  have op:=hp p (by simp)
  have hk':(addUp y fs p)[k]? = some y:=by
   unfold addUp
   split
   ·rw [List.getElem?_append_left (List.getElem?_eq_some_iff.mp hk).1]; exact hk
   ·exact hk
  have hf':∀ z∈addUp y fs p,Ok z:=fun z hz=>by
   rcases (addUp_mem y fs p z).mp hz with h | ⟨_,rfl⟩
   ·exact hf z h
   ·exact op.1
  have hl':(addUp y fs p).length≤fs.length+1:=by unfold addUp; split <;> simp
  obtain ⟨y4,y5,h⟩:=up_loop s0 s1 k y hy ps (addUp y fs p) (some (.str p.1)) (some (.str p.2)) (fun q hq=>hp q (by simp [hq])) hf' hk' (by omega)
  refine ⟨y4,y5,?_⟩
  rw [show walkUp y (p :: ps) fs=walkUp y ps (addUp y fs p) from rfl,← h,List.map_cons,loopM]
  have hat:atI (fs.map D.str) (k:Int)=some (.str y):=by
   have hkl:=(List.getElem?_eq_some_iff.mp hk).1
   simp [atI,ixN,hkl,hk]
   exact (List.getElem?_eq_some_iff.mp hk).2
  have hi:=inLS op.1 hf
  have he:=eqS op.2 hy
  have hx:fs.length < sizeLine:=by omega
  by_cases c1:p.2=y
  ·by_cases c2:p.1∈fs
   ·have ea:addUp y fs p=fs:=by unfold addUp; rw [if_neg fun z=>z.2 c2]
    rw [decide_eq_true c2] at hi
    rw [beq_iff_eq.mpr c1] at he
    rw [ea]
    simp [b_bringing_by_0,pD,hat,he,oNotIn,hi]
   ·have ea:addUp y fs p=fs++[p.1]:=by unfold addUp; rw [if_pos ⟨c1,c2⟩]
    rw [decide_eq_false c2] at hi
    rw [beq_iff_eq.mpr c1] at he
    rw [ea]
    simp [b_bringing_by_0,pD,hat,he,oNotIn,hi,hx]
  ·have ea:addUp y fs p=fs:=by unfold addUp; rw [if_neg fun z=>c1 z.1]
   have:(p.2==y)=false:=by simpa using c1
   rw [this] at he
   rw [ea]
   simp [b_bringing_by_0,pD,hat,he]
theorem bring_while (d : D) (ps : List Pr) (hd : itemsD d = some (ps.map pD)) (role : Str) (hr : Ok role) (hp : ∀ p ∈ ps, OkP p) (hz : 2 * ps.length + 2 < sizeLine) : ∀ (m k : Nat) (fs : List Str) (x4 x5 : Option D), ps.length + 1 - k ≤ m → k ≤ fs.length → fs.Nodup → role ∈ fs → (∀ x ∈ fs, Reach ps x role) → (∀ x ∈ fs, x ∈ role :: ps.map (·.1)) →
    (∀ j, j < k → ∀ y, fs[j]? = some y → ∀ x, (x, y) ∈ ps → x ∈ fs) → ∃ (fs' : List Str) (y4 y5 : Option D), fs'.Nodup ∧ (∀ x, x ∈ fs' ↔ Reach ps x role) ∧
      ∃ n, whileM (mTruth (m2 oLt (mV 3) (mFr (m1 fLen (mCons (mV 2) mNil))))) b_bringing_by_1 n [some (.sh d), some (.sh (.str role)), some (.li (fs.map D.str)), some (.sh (.int k)), oD' x4, oD' x5] =
        .nx [some (.sh d), some (.sh (.str role)), some (.li (fs'.map D.str)), some (.sh (.int fs'.length)), oD' y4, oD' y5] := by
  intro m
  induction m with
  | zero =>
    intro k fs x4 x5 hm hk nd h0 h1 h2 h3
    have hlen : fs.length ≤ ps.length + 1 := by have := nodup_le nd h2; simpa using this
    have e : k = fs.length := by omega
    subst e
    refine ⟨fs, x4, x5, nd, reach_closed h0 h1 fun x y hxy hy => ?_, while_stop (by simp)⟩
    obtain ⟨j, hj, e⟩ := List.mem_iff_getElem.mp hy
    exact h3 j hj y (by rw [List.getElem?_eq_getElem hj, e]) x hxy
  | succ m ih =>
    intro k fs x4 x5 hm hk nd h0 h1 h2 h3
    have hlen : fs.length ≤ ps.length + 1 := by have := nodup_le nd h2; simpa using this
    by_cases e : k = fs.length
    · subst e
      refine ⟨fs, x4, x5, nd, reach_closed h0 h1 fun x y hxy hy => ?_, while_stop (by simp)⟩
      obtain ⟨j, hj, e⟩ := List.mem_iff_getElem.mp hy
      exact h3 j hj y (by rw [List.getElem?_eq_getElem hj, e]) x hxy
    · have hkl : k < fs.length := by omega
      have hok : ∀ z ∈ fs, Ok z := fun z hz => by
        rcases List.mem_cons.mp (h2 z hz) with rfl | h
        · exact hr
        · obtain ⟨p, hp1, rfl⟩ := List.mem_map.mp h
          exact (hp p hp1).1
      have hat : fs[k]? = some fs[k] := List.getElem?_eq_getElem hkl
      obtain ⟨z4, z5, hu⟩ := up_loop (some (.sh d)) (some (.sh (.str role))) k fs[k] (hok _ (List.getElem_mem hkl)) ps fs x4 x5 hp hok hat (by omega)
      obtain ⟨r, hr2⟩ := walkUp_pre (y := fs[k]) ps fs
      have mem := walkUp_mem fs[k] ps fs
      have hlen2 : fs.length ≤ (walkUp fs[k] ps fs).length := by rw [hr2]; simp
      obtain ⟨fs', y4, y5, q1, q2, q3⟩ := ih (k + 1) (walkUp fs[k] ps fs) z4 z5 (by omega) (by omega) (walkUp_nodup nd) ((mem role).mpr (.inl h0))
        (fun x hx => by
          rcases (mem x).mp hx with h | h
          · exact h1 x h
          · exact .step h (h1 _ (List.getElem_mem hkl)))
        (fun x hx => by
          rcases (mem x).mp hx with h | h
          · exact h2 x h
          · exact List.mem_cons_of_mem _ (List.mem_map.mpr ⟨_, h, rfl⟩))
        (fun j hj y hy x hxy => by
          have hj' : j < fs.length := by omega
          rw [hr2, List.getElem?_append_left hj'] at hy
          by_cases c : j = k
          · subst c
            rw [hat] at hy; cases hy
            exact (mem x).mpr (.inr hxy)
          · exact (mem x).mpr (.inl (h3 j (by omega) y hy x hxy)))
      refine ⟨fs', y4, y5, q1, q2, while_step (by simp [hkl]) ?_ q3⟩
      have hu' := hu
      simp only [b_bringing_by_1, B_bringing_by_1, mSeq, mForV, List.getElem?_cons_zero, hd, hu']
      simp
theorem f_bring {d:D} {ps:List Pr} (hd:itemsD d=some (ps.map pD)) {role:Str} (hr:Ok role) (hp:∀ p∈ps,OkP p) (hz:2*ps.length+2 < sizeLine):∃ fs:List Str,fs.Nodup∧(∀ x,x∈fs↔Reach ps x role)∧f_bringing_by [d,.str role]=some (.li (fs.map D.str)):=by
 obtain ⟨fs,y4,y5,h1,h2,h3⟩:=bring_while d ps hd role hr hp hz (ps.length+1) 0 [role] none none (by omega) (by simp) (by simp) (by simp) (fun x hx=>by rw [List.mem_singleton.mp hx]; exact .refl _) (fun x hx=>by simp [List.mem_singleton.mp hx]) (fun j hj=>by omega)
 refine ⟨fs,h1,h2,?_⟩
 have w:=while_is h3
 simp only [oD',Option.map_none,List.map_cons,List.map_nil] at w
 have h1:(1:Nat)≤sizeLine:=by omega
 simp only [f_bringing_by,runF,m_bringing_by,M_bringing_by]
 simp [h1]
 have w':mWhile (mTruth (m2 oLt (mV 3) (mFr (m1 fLen (mCons (mV 2) mNil))))) b_bringing_by_1 [some (.sh d),some (.sh (.str role)),some (.li [.str role]),some (.sh (.int 0)),none,none]=_:=w
 simp [w']
theorem pairs_loop (s0:Option SV) (R:List Str) (hR:∀ z∈R,Ok z) (rk:Str→Nat):∀ (qs ps:List Pr) (x3 x4:Option D),(ps++qs).Nodup→(∀ p∈ps++qs,p.1∈R∧p.2∈R)→(∀ p∈ps++qs,rk p.1 < rk p.2)→2*(ps.length+qs.length)+2 < sizeLine→∃ y3 y4,
  loopM (gSq 2 (gCs (gN 3) (gCs (gN 4) gNs))) b_checked_pairs_0 (qs.map pD) [s0,some (.sh (.tup (R.map D.str))),some (.li (ps.map pD)),oD' x3,oD' x4]=.nx [s0,some (.sh (.tup (R.map D.str))),some (.li ((ps++qs).map pD)),oD' y3,oD' y4]
 | [],ps,x3,x4,_,_,_,_=>⟨x3,x4,by simp [loopM]⟩
 | q :: qs,ps,x3,x4,nd,hm,hk,hl=>by
  simp only [List.length_cons] at hl
  have e0:ps++q :: qs=(ps++[q])++qs:=by simp
  rw [e0] at nd hm hk ⊢
  obtain ⟨y3,y4,h⟩:=pairs_loop s0 R hR rk qs (ps++[q]) (some (.str q.1)) (some (.str q.2)) nd hm hk (by simp; omega)
  refine ⟨y3,y4,?_⟩
  have hq:=hm q (by simp)
  have okq:OkP q:=⟨hR _ hq.1,hR _ hq.2⟩
  have okps:∀ p∈ps,OkP p:=fun p hp=>⟨hR _ (hm p (by simp [hp])).1,hR _ (hm p (by simp [hp])).2⟩
  have g1:=f_among okq.1 hR
  have g2:=f_among okq.2 hR
  rw [decide_eq_true hq.1] at g1
  rw [decide_eq_true hq.2] at g2
  have nq:q∉ps:=by
   intro z
   have nd1:=(List.nodup_append.mp nd).1
   exact (List.nodup_append.mp nd1).2.2 q z q (by simp) rfl
  have g3:inB (.tup [.str q.1,.str q.2]) (.lst (ps.map pD))=some (decide (q∈ps)):=inLP okq okps
  rw [decide_eq_false nq] at g3
  obtain ⟨fs,f1,f2,f3⟩:=f_bring (d:=.lst (ps.map pD)) (ps:=ps) rfl okq.1 okps (by omega)
  have nfs:q.2∉fs:=fun z=>by
   have r:=(f2 q.2).mp z
   have:=r.rank (rk:=rk) fun p hp=>hk p (by simp [hp])
   have:=hk q (by simp)
   omega
  have okf:∀ z∈fs,Ok z:=fun z hz=>by
   have r:=(f2 z).mp hz
   cases r with
   | refl=>exact okq.1
   | step h _=>exact (okps _ h).1
  have g4:=inLS okq.2 okf
  rw [decide_eq_false nfs] at g4
  have h2:(2:Nat)≤sizeLine:=by omega
  have hx:ps.length < sizeLine:=by omega
  rw [← h,List.map_cons,loopM]
  simp [b_checked_pairs_0,B_checked_pairs_0,pD,g1,g2,h2,oIn,g3,f3,g4,hx]
theorem f_pairs {ps:List Pr} {R:List Str} (hR:∀ z∈R,Ok z) {rk:Str→Nat} (nd:ps.Nodup) (hm:∀ p∈ps,p.1∈R∧p.2∈R) (hk:∀ p∈ps,rk p.1 < rk p.2) (h15:ps.length≤15):f_checked_pairs [.lst (ps.map pD),.tup (R.map D.str)]=some (.sh (.tup (ps.map pD))):=by
 obtain ⟨y3,y4,h⟩:=pairs_loop (some (.sh (.lst (ps.map pD)))) R hR rk ps [] none none (by simpa using nd) (by simpa using hm) (by simpa using hk) (by rw [sl_big']; simp; omega)
 simp only [oD',Option.map_none,List.map_nil,List.nil_append] at h
 have c:¬ ((15:Int) < (ps.length:Int)):=by omega
 simp [f_checked_pairs,runF,m_checked_pairs,M_checked_pairs,c,h]
def keyP (p:Pr):List Key:=[.inr p.1,.inr p.2]
theorem keyP_inj {a b:Pr} (h:keyP a=keyP b):a=b:=by
 obtain ⟨a1,a2⟩:=a
 obtain ⟨b1,b2⟩:=b
 simp [keyP] at h
 simp [h]
def kvB:Nat→List Pr→List (List Key×D)
 | _,[]=>[]
 | n,p :: ps=>(keyP p,.int (2 ^ n:Nat)) :: kvB (n+1) ps
theorem kvB_len:∀ (n:Nat) (ps:List Pr),(kvB n ps).length=ps.length
 | _,[]=>rfl
 | n,p :: ps=>by simp [kvB,kvB_len (n+1) ps]
theorem kvB_app:∀ (n:Nat) (ps:List Pr) (p:Pr),kvB n (ps++[p])=kvB n ps++[(keyP p,.int (2 ^ (n+ps.length):Nat))]
 | n,[],p=>by simp [kvB]
 | n,q :: ps,p=>by
  simp only [List.cons_append,kvB,kvB_app (n+1) ps p,List.length_cons]
  rw [show n+1+ps.length=n+(ps.length+1) by omega]
theorem kvB_any:∀ (n:Nat) (ps:List Pr) (p:Pr),((kvB n ps).any fun kv=>decide (kv.1=keyP p))=decide (p∈ps)
 | _,[],p=>by simp [kvB]
 | n,q :: ps,p=>by
  rw [kvB,List.any_cons,kvB_any (n+1) ps p,Bool.eq_iff_iff]
  simp only [Bool.or_eq_true,decide_eq_true_eq,List.mem_cons]
  constructor
  ·rintro (h | h)
   ·exact .inl (keyP_inj h).symm
   ·exact .inr h
  ·rintro (h | h)
   ·exact .inl (by rw [h])
   ·exact .inr h
theorem kvB_put {ps:List Pr} {p:Pr} (h:p∉ps):putG (kvB 0 ps) (keyP p) (.int (2 ^ ps.length:Nat))=kvB 0 (ps++[p]):=by
 unfold putG
 rw [kvB_any,if_neg (by simpa using h),kvB_app]
 simp
theorem kvB_val:∀ (n:Nat) (ps:List Pr) (p:Pr),p∈ps→valG (kvB n ps) (keyP p)=some (.int (2 ^ (n+ps.idxOf p):Nat))
 | _,[],p,h=>by simp at h
 | n,q :: ps,p,h=>by
  by_cases c:q=p
  ·subst c
   simp [kvB,valG,List.find?_cons,List.idxOf_cons]
  ·have hp:p∈ps:=by
    rcases List.mem_cons.mp h with rfl | h
    ·exact absurd rfl c
    ·exact h
   have hk:¬ keyP q=keyP p:=fun z=>c (keyP_inj z)
   have ih:=kvB_val (n+1) ps p hp
   have:valG (kvB n (q :: ps)) (keyP p)=valG (kvB (n+1) ps) (keyP p):=by simp [kvB,valG,List.find?_cons,hk]
   rw [this,ih]
   have hb:(q==p)=false:=by simpa using c
   rw [List.idxOf_cons,hb]
   simp only [cond_false]
   rw [show n+1+ps.idxOf p=n+(ps.idxOf p+1) by omega]
theorem bits_in (s0 s1:Option SV) (who:Str):∀ (rs:List Str) (ps:List Pr) (x5:Option D),(ps++rs.map fun r=>(who,r)).Nodup→ps.length+rs.length < sizeLine→∃ y5,
  loopM (gN 5) b_bits_of_rights_0 (rs.map D.str) [s0,s1,some (.dT (kvB 0 ps)),some (.sh (.int (2 ^ ps.length:Nat))),some (.sh (.str who)),oD' x5] =
   .nx [s0,s1,some (.dT (kvB 0 (ps++rs.map fun r=>(who,r)))),some (.sh (.int (2 ^ (ps++rs.map fun r=>(who,r)).length:Nat))),some (.sh (.str who)),oD' y5]
 | [],ps,x5,_,_=>⟨x5,by simp [loopM]⟩
 | r :: rs,ps,x5,nd,hl=>by
  simp only [List.length_cons] at hl
  have e0:ps++(r :: rs).map (fun r=>(who,r))=(ps++[(who,r)])++rs.map fun r=>(who,r):=by simp
  rw [e0] at nd ⊢
  obtain ⟨y5,h⟩:=bits_in s0 s1 who rs (ps++[(who,r)]) (some (.str r)) nd (by simp; omega)
  refine ⟨y5,?_⟩
  have np:(who,r)∉ps:=by
   intro z
   have nd1:=(List.nodup_append.mp nd).1
   exact (List.nodup_append.mp nd1).2.2 _ z _ (by simp) rfl
  have h2:(2:Nat)≤sizeLine:=by omega
  have hx:(kvB 0 ps).length < sizeLine:=by rw [kvB_len]; omega
  have hp:=kvB_put np
  have ep:((2 ^ ps.length:Nat):Int)+((2 ^ ps.length:Nat):Int)=((2 ^ (ps.length+1):Nat):Int):=by rw [Nat.pow_succ]; omega
  have el:(ps++[(who,r)]).length=ps.length+1:=by simp
  rw [← h,List.map_cons,loopM,el,← hp]
  simp only [keyP] at *
  generalize (2 ^ ps.length:Nat)=w at *
  generalize (2 ^ (ps.length+1):Nat)=w2 at *
  simp [b_bits_of_rights_0,h2,hx,ep]
def cross (F R:List Str):List Pr:=F.flatMap fun w=>R.map fun r=>(w,r)
theorem cross_app (F:List Str) (w:Str) (R:List Str):cross (F++[w]) R=cross F R++R.map fun r=>(w,r):=by simp [cross]
theorem cross_len (F R:List Str):(cross F R).length=F.length*R.length:=by
 induction F with
 | nil=>simp [cross]
 | cons w F ih=>
  have:cross (w :: F) R=(R.map fun r=>(w,r))++cross F R:=rfl
  rw [this,List.length_append,List.length_map,ih,List.length_cons,Nat.add_mul,Nat.one_mul,Nat.add_comm]
theorem cross_mem {F R:List Str} {p:Pr}:p∈cross F R↔p.1∈F∧p.2∈R:=by
 unfold cross
 rw [List.mem_flatMap]
 constructor
 ·rintro ⟨w,hw,h⟩
  obtain ⟨r,hr,rfl⟩:=List.mem_map.mp h
  exact ⟨hw,hr⟩
 ·rintro ⟨h1,h2⟩
  exact ⟨p.1,h1,List.mem_map.mpr ⟨p.2,h2,rfl⟩⟩
theorem row_nodup {R:List Str} (w:Str) (h:R.Nodup):(R.map fun r=>(w,r)).Nodup:=by
 rw [List.nodup_iff_pairwise_ne] at h ⊢
 rw [List.pairwise_map]
 exact h.imp fun n z=>n (by simpa using z)
theorem cross_nodup {R:List Str} (hR:R.Nodup):∀ {F:List Str},F.Nodup→(cross F R).Nodup
 | [],_=>by simp [cross]
 | w :: F,h=>by
  obtain ⟨h1,h2⟩:=List.nodup_cons.mp h
  have:cross (w :: F) R=(R.map fun r=>(w,r))++cross F R:=rfl
  rw [this,List.nodup_append]
  refine ⟨row_nodup w hR,cross_nodup hR h2,fun a ha b hb z=>?_⟩
  obtain ⟨r,_,rfl⟩:=List.mem_map.mp ha
  subst z
  exact h1 (cross_mem.mp hb).1
theorem bits_out (s0:Option SV) (R:List Str) (hR:R.Nodup):∀ (ws F:List Str) (x4 x5:Option D),(F++ws).Nodup→(F.length+ws.length)*R.length+R.length < sizeLine→∃ y4 y5,
  loopM (gN 4) b_bits_of_rights_1 (ws.map D.str) [s0,some (.sh (.tup (R.map D.str))),some (.dT (kvB 0 (cross F R))),some (.sh (.int (2 ^ (cross F R).length:Nat))),oD' x4,oD' x5] =
   .nx [s0,some (.sh (.tup (R.map D.str))),some (.dT (kvB 0 (cross (F++ws) R))),some (.sh (.int (2 ^ (cross (F++ws) R).length:Nat))),oD' y4,oD' y5]
 | [],F,x4,x5,_,_=>⟨x4,x5,by simp [loopM]⟩
 | w :: ws,F,x4,x5,nd,hl=>by
  simp only [List.length_cons] at hl
  have e0:F++w :: ws=(F++[w])++ws:=by simp
  rw [e0] at nd ⊢
  have e1:F.length+(ws.length+1)=F.length+1+ws.length:=by omega
  obtain ⟨z5,h1⟩:=bits_in s0 (some (.sh (.tup (R.map D.str)))) w R (cross F R) x5 (by rw [← cross_app]; exact cross_nodup hR (List.nodup_append.mp nd).1) (by rw [cross_len]; simp only [Nat.add_mul,Nat.one_mul] at hl; omega)
  obtain ⟨y4,y5,h⟩:=bits_out s0 R hR ws (F++[w]) (some (.str w)) z5 nd (by simp only [List.length_append,List.length_cons,List.length_nil,Nat.zero_add]; rw [e1] at hl; exact hl)
  refine ⟨y4,y5,?_⟩
  rw [← cross_app] at h1
  rw [← h,List.map_cons,loopM]
  simp only [gN,List.length_cons,List.length_nil,List.getElem?_cons_succ,List.getElem?_cons_zero,isLk,Option.join_some,lkO_map,List.set_cons_succ,List.set_cons_zero,and_true]
  rw [if_pos (by omega)]
  simp only [b_bits_of_rights_1,B_bits_of_rights_1,mForV,List.getElem?_cons_succ,List.getElem?_cons_zero,itemsD,h1,Option.map_some]
theorem f_bits {F R:List Str} (hF:F.Nodup) (hR:R.Nodup) (hl:F.length*R.length+R.length < sizeLine):f_bits_of_rights [.tup (F.map D.str),.tup (R.map D.str)]=some (.dT (kvB 0 (cross F R))):=by
 obtain ⟨y4,y5,h⟩:=bits_out (some (.sh (.tup (F.map D.str)))) R hR F [] none none (by simpa using hF) (by simpa using hl)
 have e0:cross [] R=[]:=rfl
 simp only [oD',Option.map_none,e0,kvB,List.nil_append,List.length_nil] at h
 have h':loopM (gN 4) b_bits_of_rights_1 (F.map D.str) [some (.sh (.tup (F.map D.str))),some (.sh (.tup (R.map D.str))),some (.dT []),some (.sh (.int 1)),none,none]=_:=h
 simp [f_bits_of_rights,runF,m_bits_of_rights,M_bits_of_rights,h']
open Classical in
noncomputable def rch (ps:List Pr) (u r:Str):Bool:=decide (Reach ps u r)
theorem rch_iff {ps:List Pr} {u r:Str}:rch ps u r=true↔Reach ps u r:=by simp [rch]
noncomputable def brg (ps:List Pr) (R:List Str) (r:Str):List Str:=R.filter fun u=>rch ps u r
theorem comp_in (fs:List Str) (hf:∀ z∈fs,Ok z) (p:Str→Bool) (hp:∀ x,p x=decide (x∈fs)):∀ (xs:List Str) (x:Option D),(∀ z∈xs,Ok z)→
  compM (gN 0) (mTruth (m2 oIn (mV 0) (mV 1))) (mV 0) (xs.map D.str) [oD' x,some (.sh (.lst (fs.map D.str)))]=some ((xs.filter p).map D.str)
 | [],_,_=>rfl
 | z :: xs,x,h=>by
  have ih:=comp_in fs hf p hp xs (some (.str z)) fun w hw=>h w (by simp [hw])
  simp only [oD',Option.map_some] at ih
  have hi:=inLS (h z (by simp)) hf
  rw [List.map_cons,compM,List.filter_cons,hp z]
  by_cases c:z∈fs
  ·rw [decide_eq_true c] at hi
   simp [oIn,hi,ih,c]
  ·rw [decide_eq_false c] at hi
   simp [oIn,hi,ih,c]
noncomputable def kvR (ps:List Pr) (R rs:List Str):List (Key×D):=rs.map fun r=>(.inr r,.tup ((brg ps R r).map D.str))
theorem kvR_put {ps:List Pr} {R rs:List Str} {r:Str} (h:r∉rs):putG (kvR ps R rs) (.inr r) (.tup ((brg ps R r).map D.str))=kvR ps R (rs++[r]):=by
 unfold putG
 have:((kvR ps R rs).any fun kv=>decide (kv.1=Sum.inr r))=decide (r∈rs):=by
  unfold kvR
  rw [List.any_map,Bool.eq_iff_iff]
  simp
 rw [this,if_neg (by simpa using h)]
 simp [kvR]
theorem brgs_loop (ps:List Pr) (R:List Str) (hR:∀ z∈R,Ok z) (hp:∀ p∈ps,OkP p) (hz:2*ps.length+2 < sizeLine):∀ (qs rs:List Str) (x3:Option D) (x4:Option SV),lkO x4=false→(rs++qs).Nodup→(∀ z∈qs,Ok z)→rs.length+qs.length < sizeLine→R.length≤sizeLine→∃ y3 y4,lkO y4=false∧
  loopM (gN 3) b_bringers_of_roles_0 (qs.map D.str) [some (.sh (.tup (R.map D.str))),some (.sh (.tup (ps.map pD))),some (.dK (kvR ps R rs)),oD' x3,x4] =
   .nx [some (.sh (.tup (R.map D.str))),some (.sh (.tup (ps.map pD))),some (.dK (kvR ps R (rs++qs))),oD' y3,y4]
 | [],rs,x3,x4,h4,_,_,_,_=>⟨x3,x4,h4,by simp [loopM]⟩
 | q :: qs,rs,x3,x4,h4,nd,ho,hl,hRl=>by
  simp only [List.length_cons] at hl
  have e0:rs++q :: qs=(rs++[q])++qs:=by simp
  rw [e0] at nd ⊢
  obtain ⟨fs,f1,f2,f3⟩:=f_bring (d:=.tup (ps.map pD)) (ps:=ps) rfl (ho q (by simp)) hp hz
  have okf:∀ z∈fs,Ok z:=fun z hz=>by
   have r:=(f2 z).mp hz
   cases r with
   | refl=>exact ho q (by simp)
   | step h _=>exact (hp _ h).1
  obtain ⟨y3,y4,e4,h⟩:=brgs_loop ps R hR hp hz qs (rs++[q]) (some (.str q)) (some (.li (fs.map D.str))) rfl nd (fun z hz=>ho z (by simp [hz])) (by simp; omega) hRl
  refine ⟨y3,y4,e4,?_⟩
  have np:q∉rs:=by
   intro z
   have nd1:=(List.nodup_append.mp nd).1
   exact (List.nodup_append.mp nd1).2.2 _ z _ (by simp) rfl
  have hc:=comp_in fs okf (fun u=>rch ps u q) (fun x=>by rw [Bool.eq_iff_iff,rch_iff,decide_eq_true_iff]; exact (f2 x).symm) R none hR
  simp only [oD',Option.map_none] at hc
  have hput:=kvR_put (ps:=ps) (R:=R) np
  have hb:(R.filter fun u=>rch ps u q)=brg ps R q:=rfl
  rw [hb] at hc
  have hkl:(kvR ps R rs).length < sizeLine:=by simp [kvR]; omega
  rw [← h,List.map_cons,loopM,← hput]
  simp [b_bringers_of_roles_0,B_bringers_of_roles_0,f3,h4,plainsS,hRl,hc,hkl]
theorem f_brgs {ps:List Pr} {R:List Str} (nd:R.Nodup) (hR:∀ z∈R,Ok z) (hp:∀ p∈ps,OkP p) (hz:2*ps.length+2 < sizeLine) (hl:R.length < sizeLine):f_bringers_of_roles [.tup (R.map D.str),.tup (ps.map pD)]=some (.dK (kvR ps R R)):=by
 obtain ⟨y3,y4,e4,h⟩:=brgs_loop ps R hR hp hz R [] none none rfl (by simpa using nd) hR (by simpa using hl) (by omega)
 simp only [oD',Option.map_none,List.nil_append] at h
 have e0:kvR ps R []=[]:=rfl
 rw [e0] at h
 simp [f_bringers_of_roles,runF,m_bringers_of_roles,M_bringers_of_roles,h]
noncomputable def offF (F R:List Str) (ps:List Pr):List (Str×D):=[("folk",.tup (F.map D.str)),("roles",.tup (R.map D.str)),("pairs",.tup (ps.map pD)),("right_bits",.dZ (kvB 0 (cross F R))),("bringers",.dK (kvR ps R R))]
abbrev cOff:Nat:=0
theorem office_core (fn fp fb fr:List D→Option SV) {F R:List Str} {ps:List Pr} (c:¬ ((12:Int) < (F.length:Int)*(R.length:Int))) (cm:cMulB (F.length:Int) (R.length:Int)=true)
  (g1:fn [.lst (F.map D.str),.int 4]=some (.sh (.tup (F.map D.str)))) (g2:fn [.lst (R.map D.str),.int 6]=some (.sh (.tup (R.map D.str)))) (g3:fp [.lst (ps.map pD),.tup (R.map D.str)]=some (.sh (.tup (ps.map pD))))
  (g4:fb [.tup (F.map D.str),.tup (R.map D.str)]=some (.dT (kvB 0 (cross F R)))) (g5:fr [.tup (R.map D.str),.tup (ps.map pD)]=some (.dK (kvR ps R R))) :
  runI (M_Office__init_ fn fp fb fr) 4 4 cOff [.lst (F.map D.str),.lst (R.map D.str),.lst (ps.map pD)]=some (offF F R ps):=by
 have n1:¬ (("folk":Str)="roles"):=by decide
 have n2:¬ (("folk":Str)="pairs"):=by decide
 have n3:¬ (("folk":Str)="right_bits"):=by decide
 have n4:¬ (("folk":Str)="bringers"):=by decide
 have n5:¬ (("roles":Str)="pairs"):=by decide
 have n6:¬ (("roles":Str)="right_bits"):=by decide
 have n7:¬ (("roles":Str)="bringers"):=by decide
 have n8:¬ (("pairs":Str)="right_bits"):=by decide
 have n9:¬ (("pairs":Str)="bringers"):=by decide
 have n0:¬ (("right_bits":Str)="bringers"):=by decide
 have m1':(("roles":Str)=="folk")=false:=by decide
 have m2':(("pairs":Str)=="folk")=false:=by decide
 have m3':(("pairs":Str)=="roles")=false:=by decide
 simp [runI,M_Office__init_,g1,g2,g3,g4,g5,c,cm,putD',n1,n2,n3,n4,n5,n6,n7,n8,n9,n0,List.lookup,m1',m2',m3',plainsS,plainsP,offF]
theorem f_office {F R:List Str} {ps:List Pr} (v:Valid F R ps):i_Office__init_ cOff [.lst (F.map D.str),.lst (R.map D.str),.lst (ps.map pD)]=some (offF F R ps):=by
 have okR:∀ z∈R,Ok z:=fun z hz=>(v.rg z hz).ok
 have okP:∀ p∈ps,OkP p:=fun p hp=>⟨okR _ (v.pm p hp).1,okR _ (v.pm p hp).2⟩
 obtain ⟨rk,hrk⟩:=v.rk
 have r6:=v.r6
 have f4:=v.f4
 have hm:=v.fr
 have c:¬ ((12:Int) < (F.length:Int)*(R.length:Int)):=by
  have:((F.length*R.length:Nat):Int)≤12:=by omega
  rw [Int.natCast_mul] at this
  omega
 have cm:cMulB (F.length:Int) (R.length:Int)=true:=cMul_iff.mpr (.inl ⟨by omega,by omega⟩)
 exact office_core f_checked_names f_checked_pairs f_bits_of_rights f_bringers_of_roles c cm (f_names (n:=4) v.fn v.fg v.f1 v.f4 (by omega)) (f_names (n:=6) v.rn v.rg v.r1 v.r6 (by omega)) (f_pairs okR v.pn v.pm hrk v.p15)
  (f_bits v.fn v.rn (by rw [sl_big']; omega)) (f_brgs v.rn okR okP (by have:=v.p15; rw [sl_big']; omega) (by rw [sl_big']; omega))
end My
namespace My
open PySem L2 M1
section
variable {F R:List Str} {ps:List Pr}
theorem lk_off (m:Str):(offF F R ps).lookup m=if m=="folk" then some (.tup (F.map D.str)) else if m=="roles" then some (.tup (R.map D.str)) else if m=="pairs" then some (.tup (ps.map pD)) else if m=="right_bits" then some (.dZ (kvB 0 (cross F R))) else if m=="bringers" then some (.dK (kvR ps R R)) else none:=by
 simp only [offF,List.lookup]
 cases (m=="folk") <;> cases (m=="roles") <;> cases (m=="pairs") <;> cases (m=="right_bits") <;> cases (m=="bringers") <;> rfl
@[simp] theorem lk_folk:(offF F R ps).lookup ("folk":Str)=some (.tup (F.map D.str)):=by rw [lk_off,if_pos (by decide)]
@[simp] theorem lk_roles:(offF F R ps).lookup ("roles":Str)=some (.tup (R.map D.str)):=by rw [lk_off,if_neg (by decide),if_pos (by decide)]
@[simp] theorem lk_bits:(offF F R ps).lookup ("right_bits":Str)=some (.dZ (kvB 0 (cross F R))):=by rw [lk_off,if_neg (by decide),if_neg (by decide),if_neg (by decide),if_pos (by decide)]
@[simp] theorem lk_bringers:(offF F R ps).lookup ("bringers":Str)=some (.dK (kvR ps R R)):=by rw [lk_off,if_neg (by decide),if_neg (by decide),if_neg (by decide),if_neg (by decide),if_pos (by decide)]
theorem lk_none {m:Str} (h:(m=="folk"||m=="roles"||m=="pairs"||m=="right_bits"||m=="bringers")=false):(offF F R ps).lookup m=none:=by
 simp only [Bool.or_eq_false_iff] at h
 rw [lk_off,h.1.1.1.1,h.1.1.1.2,h.1.1.2,h.1.2,h.2]
 rfl
@[simp] theorem lk_m1:(offF F R ps).lookup ("must_be_folk":Str)=none:=lk_none (by decide)
@[simp] theorem lk_m2:(offF F R ps).lookup ("must_be_role":Str)=none:=lk_none (by decide)
@[simp] theorem lk_m3:(offF F R ps).lookup ("must_be_state":Str)=none:=lk_none (by decide)
@[simp] theorem lk_m4:(offF F R ps).lookup ("is_state":Str)=none:=lk_none (by decide)
@[simp] theorem lk_m5:(offF F R ps).lookup ("bits":Str)=none:=lk_none (by decide)
@[simp] theorem lk_m6:(offF F R ps).lookup ("bringing":Str)=none:=lk_none (by decide)
@[simp] theorem lk_m7:(offF F R ps).lookup ("having":Str)=none:=lk_none (by decide)
@[simp] theorem lk_m8:(offF F R ps).lookup ("has":Str)=none:=lk_none (by decide)
@[simp] theorem lk_m9:(offF F R ps).lookup ("bit":Str)=none:=lk_none (by decide)
@[simp] theorem lk_m0:(offF F R ps).lookup ("holders":Str)=none:=lk_none (by decide)
noncomputable abbrev oO (F R:List Str) (ps:List Pr):D:=.ins cOff (offF F R ps)
theorem f_mbf (v:Valid F R ps) {w:Str} (hw:w∈F):f_Office_must_be_folk [oO F R ps,.str w]=some (.sh .non):=by
 have h:=f_among (v.fg w hw).ok (zs:=F) fun z hz=>(v.fg z hz).ok
 rw [decide_eq_true hw] at h
 simp [f_Office_must_be_folk,runF,m_Office_must_be_folk,M_Office_must_be_folk,h]
theorem f_mbr (v:Valid F R ps) {r:Str} (hr:r∈R):f_Office_must_be_role [oO F R ps,.str r]=some (.sh .non):=by
 have h:=f_among (v.rg r hr).ok (zs:=R) fun z hz=>(v.rg z hz).ok
 rw [decide_eq_true hr] at h
 simp [f_Office_must_be_role,runF,m_Office_must_be_role,M_Office_must_be_role,h]
def plc (F R:List Str) (w r:Str):Nat:=(cross F R).idxOf (w,r)
theorem get_bit {w r:Str} (hw:w∈F) (hr:r∈R):oGet (.dZ (kvB 0 (cross F R))) (.tup [.str w,.str r])=some (.int (2 ^ plc F R w r:Nat)):=by
 have h:=kvB_val 0 (cross F R) (w,r) (cross_mem.mpr ⟨hw,hr⟩)
 rw [Nat.zero_add] at h
 simp only [keyP] at h
 show (asKs [.str w,.str r]).bind (valG (kvB 0 (cross F R)))=_
 exact h
theorem f_bit (v:Valid F R ps) {w r:Str} (hw:w∈F) (hr:r∈R):f_Office_bit [oO F R ps,.str w,.str r]=some (.sh (.int (2 ^ plc F R w r:Nat))):=by
 have h1:=f_mbf v hw
 have h2:=f_mbr v hr
 have h3:=get_bit hw hr
 have h4:(2:Nat)≤sizeLine:=by rw [sl_big']; omega
 generalize ((2 ^ plc F R w r:Nat):Int)=b at h3 ⊢
 simp [f_Office_bit,runF,m_Office_bit,M_Office_bit,h1,h2,h3,h4,-oGet]
theorem f_nbits:f_Office_bits [oO F R ps]=some (.sh (.int (F.length*R.length:Nat))):=by
 simp [f_Office_bits,runF,m_Office_bits,kvB_len,cross_len]
theorem f_whole (n:Int):f_is_whole [.int n]=some (.sh (.bl true)):=by
 have e1:fIsF tab [.int n,.ty "int"]=some (.sh (.bl true)):=rfl
 have e2:fIsF tab [.int n,.ty "bool"]=some (.sh (.bl false)):=rfl
 simp [f_is_whole,runF,m_is_whole,e1,e2]
theorem intBits_le {s n:Nat} (h:s < 2 ^ n):Builtin.Int.intBits (s:Int)≤n:=by
 unfold Builtin.Int.intBits
 by_cases z:s=0
 ·subst z; simp
 ·have e:((s:Int)==0)=false:=by simp; omega
  rw [e]
  simp only [Bool.false_eq_true,if_false,Int.natAbs_natCast]
  have:=(Nat.log2_lt z).mpr h
  omega
theorem f_isst {s:Nat} (h:s < 2 ^ (F.length*R.length)):f_Office_is_state [oO F R ps,.int s]=some (.sh (.bl true)):=by
 have h1:=f_whole (s:Int)
 have h2:=f_nbits (F:=F) (R:=R) (ps:=ps)
 have h3:=intBits_le h
 have h4:((Builtin.Int.intBits (s:Int):Nat):Int)≤((F.length*R.length:Nat):Int):=by omega
 have h5:(0:Int)≤s:=by omega
 generalize ((F.length*R.length:Nat):Int)=n at h2 h4
 simp [f_Office_is_state,runF,m_Office_is_state,M_Office_is_state,h1,h2,h4,h5]
theorem f_mbs {s:Nat} (h:s < 2 ^ (F.length*R.length)):f_Office_must_be_state [oO F R ps,.int s]=some (.sh .non):=by
 have h1:=f_isst (ps:=ps) h
 simp [f_Office_must_be_state,runF,m_Office_must_be_state,M_Office_must_be_state,h1]
theorem neI' (i j:Int):oNe (.int i) (.int j)=some (.bl (!(i==j))):=rfl
theorem eqI' (i j:Int):oEq (.int i) (.int j)=some (.bl (i==j)):=rfl
theorem f_holders (v:Valid F R ps) {s:Nat} {r:Str} (hs:s < 2 ^ (F.length*R.length)) (hr:r∈R):f_Office_holders [oO F R ps,.int s,.str r]=some (.li ((F.filter fun w=>s.testBit (plc F R w r)).map D.str)):=by
 have h1:=f_mbs (ps:=ps) hs
 have h2:=f_mbr v hr
 have f4:=v.f4
 have hz:F.length≤sizeLine:=by rw [sl_big']; omega
 have h4:(2:Nat)≤sizeLine:=by rw [sl_big']; omega
 have hc:∀ (xs:List Str) (x:Option D),(∀ w∈xs,w∈F)→compM (gN 0) (mTruth (m2 oNe (m2 oAnd (mV 2) (m2 oGet (m1 (fFld [cOff] "right_bits") (mV 1)) (mTup (mCons (mV 0) (mCons (mV 3) mNil))))) (mC (.int 0)))) (mV 0) (xs.map D.str) [oD' x,some (.sh (oO F R ps)),some (.sh (.int s)),some (.sh (.str r))]=some ((xs.filter fun w=>s.testBit (plc F R w r)).map D.str):=by
  intro xs
  induction xs with
  | nil=>intro x _; rfl
  | cons w xs ih=>
   intro x h
   have i:=ih (some (.str w)) fun z hz=>h z (by simp [hz])
   simp only [oD',Option.map_some] at i
   have h3:=get_bit (h w (by simp)) hr
   have h5:=and_pow s (plc F R w r)
   rw [List.map_cons,compM,List.filter_cons]
   generalize 2 ^ plc F R w r=b at h3 h5
   cases c:s.testBit (plc F R w r)
   ·rw [c] at h5
    simp [h3,h4,bAnd,neI',int0,h5,i,-oGet]
   ·rw [c] at h5
    simp [h3,h4,bAnd,neI',int0,h5,i,-oGet]
 have h:=hc F none fun w hw=>hw
 simp only [oD',Option.map_none] at h
 simp [f_Office_holders,runF,m_Office_holders,M_Office_holders,h1,h2,h,hz,itemsD]
end
end My
namespace My
open PySem L2 M1
theorem eqI0 (i j:Int):oEq (.int i) (.int j)=some (.bl (i==j)):=rfl
theorem ix0 (a:Int) (r:List D):oIx (.lst (.int a :: r)) (.int 0)=some (.int a):=by simp [oIx,atI,ixN]
theorem ix_n (n:Nat):ixN (n+1) 0=some 0:=by simp [ixN]
theorem ix_1:ixN 1 0=some 0:=ix_n 0
theorem tk_plain (a:Int) (r:List Int) {b:Int} (h0:0 < b) (h1:cDivB b=true) (h:a≠0∨r=[]):f_law_take (a :: r) [.int b]=some (.sh (.int (a%b)),(a / b) :: r):=by
 rcases h with h | h
 ·have:(a==0)=false:=by simpa using h
  simp [f_law_take,runP,m_law_take,ix0,eqI0,this,h0,h1,ix_n,-oIx]
 ·subst h
  cases q:(a==0)
  ·simp [f_law_take,runP,m_law_take,ix0,eqI0,q,h0,h1,ix_1,-oIx]
  ·simp [f_law_take,runP,m_law_take,ix0,eqI0,q,h0,h1,ix_1,-oIx]
theorem tk_pop (r:List Int) (z:Int) {b:Int} (h0:0 < b) (h1:cDivB b=true):f_law_take (0 :: (r++[z])) [.int b]=some (.sh (.int (z%b)),(z / b) :: r):=by
 have e1:(0 :: (r++[z]):List Int)[r.length+1]? = some z:=by simp
 have e2:(0 :: (r++[z]):List Int).dropLast=0 :: r:=by rw [← List.cons_append,List.dropLast_concat]
 have e3:(1:Int) < (r.length:Int)+1+1:=by omega
 have e4:((0:Int)==0)=true:=rfl
 simp [f_law_take,runP,m_law_take,ix0,eqI0,e3,h0,h1,ix_n,e1,e2,e4,-oIx]
theorem f_tk (a:Int) (r:List Int) {b:Int} (h0:0 < b) (h1:cDivB b=true):∃ (v:Nat) (a':Int) (r':List Int),f_law_take (a :: r) [.int b]=some (.sh (.int v),a' :: r')∧(v:Int) < b:=by
 by_cases c:a≠0∨r=[]
 ·obtain ⟨v,e,hv⟩:=mod_nat a h0
  exact ⟨v,a / b,r,by rw [tk_plain a r h0 h1 c,e],hv⟩
 ·have c1:a=0:=Classical.byContradiction fun z=>c (.inl z)
  have c2:r≠[]:=fun z=>c (.inr z)
  subst c1
  have e:=List.dropLast_concat_getLast c2
  obtain ⟨v,ev,hv⟩:=mod_nat (r.getLast c2) h0
  have t:=tk_pop r.dropLast (r.getLast c2) h0 h1
  rw [e,ev] at t
  exact ⟨v,_,_,t,hv⟩
def codeAt (i:Nat):Nat:=codes.getD i 0
theorem code_get {i:Nat} (h:i < 26):codes[i]? = some (codeAt i):=by
 have hl:i < codes.length:=h
 rw [List.getElem?_eq_getElem hl]
 unfold codeAt
 rw [List.getD_eq_getElem?_getD,List.getElem?_eq_getElem hl]
 rfl
theorem letter_at {i:Nat} (h:i < 26):oIx (.str "abcdefghijklmnopqrstuvwxyz") (.int i)=some (.str ⟨#[codeAt i]⟩):=by
 have hz:(Str.ofString "abcdefghijklmnopqrstuvwxyz").length≤sizeLine:=by rw [letters_len,sl_big']; omega
 have:=atN (code_get h)
 simp [oIx,hz,letters_codes,this]
theorem code_inj {i j:Nat} (hi:i < 26) (hj:j < 26) (h:codeAt i=codeAt j):i=j:=by
 have a:=code_get hi
 have b:=code_get hj
 rw [h] at a
 have hi':i < codes.length:=hi
 have hj':j < codes.length:=hj
 rw [List.getElem?_eq_getElem hi'] at a
 rw [List.getElem?_eq_getElem hj'] at b
 have:codes[i]=codes[j]:=by injection a with a; injection b with b; rw [a,b]
 exact (List.getElem_inj codes_nodup).mp this
theorem lName_len {t:Str} {a:Nat} (hl:t.length≤5) (c:Nat):(Txt.slice t none (some (a:Int))).length+1≤6∧(Txt.slice t none (some (a:Int))++(⟨#[c]⟩:Str)).length+(Txt.slice t (some (a:Int)) none).length≤11:=by
 have q1:=Txt.slice_le t none (some (a:Int))
 have q2:=Txt.slice_le t (some (a:Int)) none
 have e:((⟨#[c]⟩:Str)).length=1:=rfl
 rw [append_len,e]
 omega
theorem nodup_range {n:Nat} {f:Nat→Str} (h:∀ j k,j < n→k < n→f j=f k→j=k):((List.range n).map f).Nodup:=
 M1.nodup_map_on (fun x hx y hy e=>h x y (List.mem_range.mp hx) (List.mem_range.mp hy) e) List.nodup_range
def lNm (t:Str) (a m k:Nat):Str:=Txt.slice t none (some (a:Int))++(⟨#[codeAt ((m+k)%26)]⟩:Str)++Txt.slice t (some (a:Int)) none
theorem lNm_good {t:Str} {a m k:Nat} (ht:∀ x∈t.cps.toList,x∈codes) (hl:t.length≤5) (ha:a≤t.length):Good (lNm t a m k):=by
 refine mk_good ?_ ?_ (List.mem_of_getElem? (code_get (Nat.mod_lt _ (by omega)))) ?_
 ·intro x hx; rw [sliceTake ha] at hx; exact ht x (List.mem_of_mem_take hx)
 ·intro x hx; rw [sliceDrop ha] at hx; exact ht x (List.mem_of_mem_drop hx)
 ·have q1:(Txt.slice t none (some (a:Int))).length=a:=by
   show (Txt.slice t none (some (a:Int))).cps.size=_
   rw [← Array.length_toList,sliceTake ha,List.length_take,Array.length_toList]
   exact Nat.min_eq_left ha
  have q2:(Txt.slice t (some (a:Int)) none).length=t.length-a:=by
   show (Txt.slice t (some (a:Int)) none).cps.size=_
   rw [← Array.length_toList,sliceDrop ha,List.length_drop,Array.length_toList]
   rfl
  omega
theorem lNm_inj {t:Str} {a m j k:Nat} (hj:j < 6) (hk:k < 6) (h:lNm t a m j=lNm t a m k):j=k:=by
 have:=mk_inj h
 have:=code_inj (Nat.mod_lt _ (by omega)) (Nat.mod_lt _ (by omega)) this
 omega
abbrev abc:SV:=.sh (.str "abcdefghijklmnopqrstuvwxyz")
theorem c26:cDivB 26=true:=cDiv_of (by omega) (by omega)
theorem c6:cDivB 6=true:=cDiv_of (by omega) (by omega)
theorem base_comp:∀ (its:List D) (x:Option D) (a:Int) (r:List Int),∃ (cs:List Nat) (a':Int) (r':List Int),cs.length=its.length∧(∀ c∈cs,c∈codes)∧
  compMP 1 (gN 0) (mPu 1 mTrue) (mP2 1 (oSh oIx) (mPu 1 (mSh (mV 2))) (mCallP f_law_take (mPu 1 (mCons (mC (.int 26)) mNil)))) its [oD' x,some (.pu (a :: r)),some abc]=some (cs.map fun c=>.str ⟨#[c]⟩,a' :: r')
 | [],x,a,r=>⟨[],a,r,rfl,by simp,by simp [compMP]⟩
 | d :: its,x,a,r=>by
  obtain ⟨v,a1,r1,t1,hv⟩:=f_tk a r (b:=26) (by omega) c26
  have hl:=letter_at (i:=v) (by omega)
  obtain ⟨cs,a2,r2,h1,h2,h3⟩:=base_comp its (some d) a1 r1
  refine ⟨codeAt v :: cs,a2,r2,by simp [h1],?_,?_⟩
  ·intro c hc
   rcases List.mem_cons.mp hc with rfl | hc
   ·exact List.mem_of_getElem? (code_get (by omega))
   ·exact h2 c hc
  ·simp only [oD',Option.map_some] at h3
   rw [compMP]
   simp [t1,hl,h3,-oIx]
end My
namespace My
open PySem L2 M1
theorem asStrs_map':∀ ys:List Str,asStrs (ys.map D.str)=some ys
 | []=>rfl
 | y :: ys=>by simp [asStrs_map' ys]
theorem flat_len:∀ cs:List Nat,((cs.map fun c=>(⟨#[c]⟩:Str)).flatMap fun y=>y.cps.toList).length=cs.length:=by
 intro cs
 induction cs with
 | nil=>rfl
 | cons c cs ih=>
  simp [List.flatMap_cons] at ih ⊢
  exact ih
theorem sum_len:∀ cs:List Nat,((cs.map fun c=>(⟨#[c]⟩:Str)).map (·.length)).sum=cs.length:=by
 intro cs
 induction cs with
 | nil=>rfl
 | cons c cs ih=>
  rw [List.map_cons,List.map_cons,List.sum_cons,ih]
  show 1+cs.length=_
  simp; omega
theorem join_cs {cs:List Nat} (hl:cs.length≤5):oJoin (.str "") [.lst (cs.map fun c=>.str ⟨#[c]⟩)]=some (.sh (.str (Txt.join "" (cs.map fun c=>⟨#[c]⟩)))):=by
 have e0:(Str.ofString "").length=0:=by decide +kernel
 have e1:(cs.map fun c=>D.str ⟨#[c]⟩)=(cs.map fun c=>(⟨#[c]⟩:Str)).map D.str:=by rw [List.map_map]; rfl
 have h1:((cs.map fun c=>(⟨#[c]⟩:Str)).map (·.length)).sum+(cs.map fun c=>(⟨#[c]⟩:Str)).length*(Str.ofString "").length≤16777216:=by
  rw [sum_len cs,e0]; omega
 rw [e1]
 simp only [oJoin,asStrs_map',Option.bind_some]
 rw [if_pos h1]
theorem join_mem {cs:List Nat} (h:∀ c∈cs,c∈codes):∀ x∈(Txt.join "" (cs.map fun c=>(⟨#[c]⟩:Str))).cps.toList,x∈codes:=by
 intro x hx
 rw [join_cps,List.mem_flatMap] at hx
 obtain ⟨y,hy,hx⟩:=hx
 obtain ⟨c,hc,rfl⟩:=List.mem_map.mp hy
 have:x=c:=by simpa using hx
 rw [this]
 exact h c hc
theorem join_len' (cs:List Nat):(Txt.join "" (cs.map fun c=>(⟨#[c]⟩:Str))).length=cs.length:=by
 show (Txt.join "" (cs.map fun c=>(⟨#[c]⟩:Str))).cps.size=_
 rw [← Array.length_toList,join_cps,flat_len]
theorem f_lnames (a:Int) (r:List Int) (n:Nat) (hn:n≤6):∃ (zs:List Str) (a':Int) (r':List Int),zs.length=n∧zs.Nodup∧(∀ z∈zs,Good z)∧f_law_names (a :: r) [.int n]=some (.li (zs.map D.str),a' :: r'):=by
 have hz:n≤sizeLine:=by rw [sl_big']; omega
 have hr:=rng0 n (by omega)
 obtain ⟨q,a1,r1,t1,hq⟩:=f_tk a r (b:=6) (by omega) c6
 have hrq:=rng0 q (by omega)
 have hilq:((List.range q).map nD).length≤sizeLine:=by rw [sl_big']; simp; omega
 obtain ⟨cs,a2,r2,l2,m2',c2⟩:=base_comp ((List.range q).map nD) none a1 r1
 have lq:cs.length=q:=by simpa using l2
 have hj:=join_cs (cs:=cs) (by omega)
 have ht:=join_mem m2'
 have htl:=join_len' cs
 generalize Txt.join "" (cs.map fun c=>(⟨#[c]⟩:Str))=t at hj ht htl
 have ht5:t.length≤5:=by omega
 have htz:t.length≤sizeLine:=by rw [sl_big']; omega
 obtain ⟨at',a3,r3,t3,h3⟩:=f_tk a2 r2 (b:=(t.length:Int)+1) (by omega) (cDiv_of (by omega) (by omega))
 obtain ⟨fi,a4,r4,t4,h4⟩:=f_tk a3 r3 (b:=26) (by omega) c26
 have ha':at'≤t.length:=by omega
 refine ⟨(List.range n).map (lNm t at' fi),a4,r4,by simp,nodup_range fun j k hj hk=>lNm_inj (by omega) (by omega),?_,?_⟩
 ·intro z hz
  obtain ⟨k,_,rfl⟩:=List.mem_map.mp hz
  exact lNm_good ht ht5 ha'
 ·have hc:=compT nD [some abc,some (.sh (.str t)),sI' at',sI' fi] (mFr (m2 oAdd (mFr (m2 oAdd (mFr (mSl (mV 2) mNo (mAt (mV 3)))) (m2 oIx (mV 1) (m2 oMod (mFr (m2 oAdd (mV 4) (mV 0))) (mC (.int 26)))))) (mFr (mSl (mV 2) (mAt (mV 3)) mNo)))) (fun k=>.str (lNm t at' fi k)) (List.range n) (fun k _=>by
   have e:((fi:Int)+(k:Int))%26=(((fi+k)%26:Nat):Int):=by omega
   have w:=letter_at (i:=(fi+k)%26) (Nat.mod_lt _ (by omega))
   obtain ⟨l1,l2⟩:=lName_len (a:=at') ht5 (codeAt ((fi+k)%26))
   have l3:(Txt.slice t none (some (at':Int))).length+(⟨#[codeAt ((fi+k)%26)]⟩:Str).length≤sizeLine:=by
    have:(⟨#[codeAt ((fi+k)%26)]⟩:Str).length=1:=rfl
    rw [sl_big']; omega
   have l4:(Txt.slice t none (some (at':Int))++(⟨#[codeAt ((fi+k)%26)]⟩:Str)).length+(Txt.slice t (some (at':Int)) none).length≤sizeLine:=by rw [sl_big']; omega
   simp only [m2,mV,mFr,mC,mSl,mNo,mAt,sI',abc,nD,List.getElem?_cons_succ,List.getElem?_cons_zero,Option.join_some,Option.map_some,SV.fr,Option.bind_some,fI,if_true,oAdd,oMod,show (0:Int) < 26 by omega,e,w,oSl,htz,l3,l4]
   rfl) none
  simp only [oD',Option.map_none] at hc
  have hil:((List.range n).map nD).length≤sizeLine:=by simpa using hz
  rw [show (List.range n).map (fun k=>D.str (lNm t at' fi k))=((List.range n).map (lNm t at' fi)).map D.str by rw [List.map_map]; rfl] at hc
  simp only [oD',Option.map_none] at c2
  generalize ((List.range n).map (lNm t at' fi))=zs at hc ⊢
  generalize (List.range n).map nD=its at hr hc hil
  generalize (List.range q).map nD=itq at hrq c2 hilq
  generalize (cs.map fun c=>D.str ⟨#[c]⟩)=cD at c2 hj
  simp only [sI',abc] at hc c2
  simp [f_law_names,runP,m_law_names,M_law_names,t1,hrq,hilq,c2,hj,htz,t3,t4,hr,hil,hc,plainsS,-oIx,-oJoin,-List.map_map,-List.getElem_map]
end My
namespace My
open PySem L2 M1
theorem erase_map {α β:Type} (f:α→β):∀ (xs:List α) (n:Nat),(xs.map f).eraseIdx n=(xs.eraseIdx n).map f
 | [],_=>rfl
 | x :: xs,0=>rfl
 | x :: xs,n+1=>by simp [erase_map f xs n]
theorem pk_loop {α:Type} (f:α→D) (s1:Option SV) (xs0:List α) (hne:∀ ys:List α,(∀ y∈ys,y∈xs0)→oNe (.lst (ys.map f)) (.lst [])=some (.bl (!decide (ys=[])))):∀ (m:Nat) (left found:List α) (a:Int) (r:List Int),left.length=m→(∀ y∈left,y∈xs0)→found.length+left.length≤1000→
  ∃ (out:List α) (a':Int) (r':List Int),out.Perm (found++left)∧∃ n,whileM (mTruth (m2 oNe (mV 2) (mFr (mLst mNil)))) b_law_picked_0 n [some (.pu (a :: r)),s1,some (.li (left.map f)),some (.li (found.map f))]=.nx [some (.pu (a' :: r')),s1,some (.li []),some (.li (out.map f))]:=by
 have z0:(0:Nat)≤sizeLine:=Nat.zero_le _
 intro m
 induction m with
 | zero=>
  intro left found a r hl hx hz
  have e:left=[]:=List.eq_nil_of_length_eq_zero hl
  subst e
  have h:=hne [] (by simp)
  refine ⟨found,a,r,by simp,while_stop ?_⟩
  simp only [List.map_nil] at h
  simp [h]
 | succ m ih=>
  intro left found a r hl hx hz
  have hn:=hne left hx
  have ne:left≠[]:=by intro z; rw [z] at hl; simp at hl
  rw [decide_eq_false ne] at hn
  obtain ⟨v,a1,r1,t1,hv⟩:=f_tk a r (b:=(left.length:Int)) (by omega) (cDiv_of (by omega) (by omega))
  have hv':v < left.length:=by omega
  have es:=seqIx (i:=(v:Int)) (n:=(left.map f).length) (by omega) (by simpa using hv')
  have ey:left[v]? = some left[v]:=List.getElem?_eq_getElem hv'
  obtain ⟨out,a2,r2,p,w⟩:=ih (left.eraseIdx v) (found++[left[v]]) a1 r1 (by have:=len_erase1 hv'; omega) (fun y hy=>hx y (List.mem_of_mem_eraseIdx hy)) (by have:=len_erase1 hv'; simp; omega)
  refine ⟨out,a2,r2,p.trans ?_,while_step (by simp [hn]) ?_ w⟩
  ·have:=erase_perm ey
   rw [List.append_assoc]
   exact List.Perm.append_left found (by simpa using this)
  ·have e1:(left.map f)[v]? = some (f left[v]):=by rw [List.getElem?_map,ey]; rfl
   have e2:(left.map f).eraseIdx v=(left.eraseIdx v).map f:=erase_map f left v
   have e3:cRngB (v:Int)=true:=cRng_of (by omega) (by omega)
   have e4:(found.map f).length < sizeLine:=by rw [sl_big']; simp; omega
   simp only [Int.toNat_natCast] at es
   have hm:mCallP f_law_take (mPu 0 (mCons (mFr (m1 fLen (mCons (mV 2) mNil))) mNil)) [some (.pu (a :: r)),s1,some (.li (left.map f)),some (.li (found.map f))]=some (.sh (.int v),a1 :: r1):=by simp [t1]
   unfold b_law_picked_0 B_law_picked_0 mAppPop
   rw [hm]
   simp only [puOf,List.getElem?_cons_zero,List.getElem?_cons_succ,List.set_cons_zero,List.set_cons_succ]
   rw [if_pos ⟨by decide,e3,e4⟩]
   simp only [es,Option.bind_some,e1,Option.map_some,e2,List.map_append,List.map_cons,List.map_nil]
theorem f_picked {α:Type} (f:α→D) (xs:List α) (hne:∀ ys:List α,(∀ y∈ys,y∈xs)→oNe (.lst (ys.map f)) (.lst [])=some (.bl (!decide (ys=[])))) (hp:D.plains (xs.map f)=true) (hz:xs.length≤1000) (a:Int) (r:List Int) :
  ∃ (out:List α) (a':Int) (r':List Int),out.Perm xs∧f_law_picked (a :: r) [.lst (xs.map f)]=some (.li (out.map f),a' :: r'):=by
 obtain ⟨out,a',r',p,w⟩:=pk_loop f (some (.sh (.lst (xs.map f)))) xs hne xs.length xs [] a r rfl (fun _ h=>h) (by simpa using hz)
 refine ⟨out,a',r',by simpa using p,?_⟩
 have w':=while_is w
 simp only [List.map_nil] at w'
 simp [f_law_picked,runP,m_law_picked,M_law_picked,hp,w']
theorem ne_strs {zs:List Str} (h:∀ z∈zs,Ok z):oNe (.lst (zs.map D.str)) (.lst [])=some (.bl (!decide (zs=[]))):=by
 have e:shp (.lst (zs.map D.str))=some (.list (zs.map PyData.str)):=by simp [shp,D.dat,datsS,shLS h]
 have e0:shp (.lst [])=some (.list []):=by
  have:=shLS (zs:=[]) (by simp)
  simp only [List.map_nil] at this
  simp [shp,D.dat,D.dats,this]
 simp only [oNe,e,e0,Option.bind_some,eqv_nil]
 cases zs <;> simp
theorem ne_prs {ps:List Pr} (h:∀ z∈ps,OkP z):oNe (.lst (ps.map pD)) (.lst [])=some (.bl (!decide (ps=[]))):=by
 have e:shp (.lst (ps.map pD))=some (.list (ps.map pP)):=by simp [shp,D.dat,pD_dats,shLP h]
 have e0:shp (.lst [])=some (.list []):=by
  have:=shLS (zs:=[]) (by simp)
  simp only [List.map_nil] at this
  simp [shp,D.dat,D.dats,this]
 simp only [oNe,e,e0,Option.bind_some,eqv_nil]
 cases ps <;> simp
end My
namespace My
open PySem L2 M1
theorem c2b:cDivB 2=true:=cDiv_of (by omega) (by omega)
theorem ord_at {O:List Str} {j:Nat} (h:j < O.length):oIx (.lst (O.map D.str)) (.int j)=some (.str (O.getD j ⟨#[]⟩)):=by
 have:=atN (xs:=O.map D.str) (k:=j) (x:=D.str (O.getD j ⟨#[]⟩)) (by rw [List.getElem?_map,getD_get h]; rfl)
 simp [oIx,this]
theorem pr_in (s1 s2:Option SV) (O:List Str) (k:Nat) (hk:k < O.length):∀ (js:List Nat) (is:List (Nat×Nat)) (a:Int) (r:List Int) (x6:Option D),(∀ j∈js,j < O.length)→is.length+js.length≤1000→
  ∃ (sel:List Nat) (a':Int) (r':List Int) (y6:Option D),sel.Sublist js∧loopM (gN 6) b_law_parts_0 (js.map nD) [some (.pu (a :: r)),s1,s2,some (.li (O.map D.str)),some (.li ((is.map (pairOf O)).map pD)),sI' k,oD' x6] =
   .nx [some (.pu (a' :: r')),s1,s2,some (.li (O.map D.str)),some (.li (((is++sel.map fun j=>(j,k)).map (pairOf O)).map pD)),sI' k,oD' y6]
 | [],is,a,r,x6,_,_=>⟨[],a,r,x6,List.Sublist.refl _,by simp [loopM]⟩
 | j :: js,is,a,r,x6,hj,hl=>by
  simp only [List.length_cons] at hl
  obtain ⟨v,a1,r1,t1,hv⟩:=f_tk a r (b:=2) (by omega) c2b
  have g1:=ord_at (hj j (by simp))
  have g2:=ord_at hk
  have h2:(2:Nat)≤sizeLine:=by rw [sl_big']; omega
  have hz:((is.map (pairOf O)).map pD).length < sizeLine:=by rw [sl_big']; simp; omega
  by_cases c:v=1
  ·obtain ⟨sel,a2,r2,y6,s,h⟩:=pr_in s1 s2 O k hk js (is++[(j,k)]) a1 r1 (some (.int j)) (fun z hz=>hj z (by simp [hz])) (by simp; omega)
   refine ⟨j :: sel,a2,r2,y6,s.cons_cons j,?_⟩
   have e0:is++(j :: sel).map (fun j=>(j,k))=(is++[(j,k)])++sel.map fun j=>(j,k):=by simp
   rw [e0,← h,List.map_cons,loopM]
   subst c
   simp only [List.map_append (f:=pairOf O),List.map_append (f:=pD),List.map_cons,List.map_nil]
   generalize hP:(is.map (pairOf O)).map pD=PD at hz ⊢
   have ev:(((1:Nat):Int)==1)=true:=rfl
   simp [b_law_parts_0,B_law_parts_0,t1,eqI0,ev,g1,g2,h2,hz,pD,pairOf,-oIx,-List.getD_eq_getElem?_getD]
  ·obtain ⟨sel,a2,r2,y6,s,h⟩:=pr_in s1 s2 O k hk js is a1 r1 (some (.int j)) (fun z hz=>hj z (by simp [hz])) (by omega)
   refine ⟨sel,a2,r2,y6,s.cons j,?_⟩
   have ev:((v:Int)==1)=false:=by simp; omega
   rw [← h,List.map_cons,loopM]
   generalize hP:(is.map (pairOf O)).map pD=PD at hz ⊢
   simp [b_law_parts_0,B_law_parts_0,t1,eqI0,ev]
theorem pr_out (s1 s2:Option SV) (O:List Str) (h6:O.length≤6):∀ (ks:List Nat) (is:List (Nat×Nat)) (a:Int) (r:List Int) (x5 x6:Option D),ks.Nodup→(∀ k∈ks,k < O.length)→is.Nodup→(∀ i∈is,i.1 < i.2∧i.2 < O.length)→(∀ i∈is,i.2∉ks)→is.length+6*ks.length≤900→
  ∃ (is':List (Nat×Nat)) (a':Int) (r':List Int) (y5 y6:Option D),is'.Nodup∧(∀ i∈is',i.1 < i.2∧i.2 < O.length)∧is'.length≤is.length+6*ks.length∧loopM (gN 5) b_law_parts_1 (ks.map nD) [some (.pu (a :: r)),s1,s2,some (.li (O.map D.str)),some (.li ((is.map (pairOf O)).map pD)),oD' x5,oD' x6] =
   .nx [some (.pu (a' :: r')),s1,s2,some (.li (O.map D.str)),some (.li ((is'.map (pairOf O)).map pD)),oD' y5,oD' y6]
 | [],is,a,r,x5,x6,_,_,nd,lt,_,_=>⟨is,a,r,x5,x6,nd,lt,by simp,by simp [loopM]⟩
 | k :: ks,is,a,r,x5,x6,kn,kl,nd,lt,dis,hl=>by
  simp only [List.length_cons] at hl
  obtain ⟨kn1,kn2⟩:=List.nodup_cons.mp kn
  have hk:=kl k (by simp)
  obtain ⟨sel,a1,r1,z6,sb,h1⟩:=pr_in s1 s2 O k hk (List.range k) is a r x6 (fun j hj=>by have:=List.mem_range.mp hj; omega) (by simp; omega)
  have sl:sel.length≤k:=by have:=sb.length_le; simpa using this
  have nd':(is++sel.map fun j=>(j,k)).Nodup:=by
   rw [List.nodup_append]
   refine ⟨nd,?_,fun i hi i' hi' e=>?_⟩
   ·exact M1.nodup_map_on (fun x _ y _ e=>(Prod.mk.inj e).1) (List.nodup_range.sublist sb)
   ·subst e
    obtain ⟨j,_,e⟩:=List.mem_map.mp hi'
    exact dis i hi (by rw [← e]; simp)
  have lt':∀ i∈is++sel.map (fun j=>(j,k)),i.1 < i.2∧i.2 < O.length:=fun i hi=>by
   rcases List.mem_append.mp hi with hi | hi
   ·exact lt i hi
   ·obtain ⟨j,hj,rfl⟩:=List.mem_map.mp hi
    exact ⟨List.mem_range.mp (sb.subset hj),hk⟩
  have dis':∀ i∈is++sel.map (fun j=>(j,k)),i.2∉ks:=fun i hi=>by
   rcases List.mem_append.mp hi with hi | hi
   ·exact fun z=>dis i hi (by simp [z])
   ·obtain ⟨j,hj,rfl⟩:=List.mem_map.mp hi
    exact kn1
  obtain ⟨is',a2,r2,y5,y6,q1,q2,q3,h⟩:=pr_out s1 s2 O h6 ks (is++sel.map fun j=>(j,k)) a1 r1 (some (.int k)) z6 kn2 (fun z hz=>kl z (by simp [hz])) nd' lt' dis' (by simp; omega)
  refine ⟨is',a2,r2,y5,y6,q1,q2,by simp at q3 ⊢; omega,?_⟩
  have hr:=rng0 k (by omega)
  rw [← h,List.map_cons,loopM]
  generalize (List.range k).map nD=its at h1 hr
  generalize ((is++sel.map fun j=>(j,k)).map (pairOf O)).map pD=P2 at h1 ⊢
  generalize (is.map (pairOf O)).map pD=P1 at h1 ⊢
  simp only [oD',Option.map_some,sI'] at h1 ⊢
  simp [b_law_parts_1,B_law_parts_1,hr,h1]
theorem sizes_at {n:Nat} (h1:1≤n) (h4:n≤4):∃ m:Nat,oIx (.lst [.int 6,.int 6,.int 4,.int 3]) (.int ((n:Int)-1))=some (.int m)∧1≤m∧m≤6∧n*m≤12:=by
 rcases (by omega:n=1∨n=2∨n=3∨n=4) with rfl | rfl | rfl | rfl
 ·exact ⟨6,rfl,by omega,by omega,by omega⟩
 ·exact ⟨6,rfl,by omega,by omega,by omega⟩
 ·exact ⟨4,rfl,by omega,by omega,by omega⟩
 ·exact ⟨3,rfl,by omega,by omega,by omega⟩
abbrev tD (F R:List Str) (ps:List Pr):List D:=[.lst (F.map D.str),.lst (R.map D.str),.lst (ps.map pD)]
theorem f_parts (a:Int) (r:List Int):∃ (F R:List Str) (ps:List Pr) (a':Int) (r':List Int),Valid F R ps∧f_law_parts (a :: r) []=some (.li (tD F R ps),a' :: r'):=by
 obtain ⟨v1,a1,r1,t1,h1⟩:=f_tk a r (b:=4) (by omega) (cDiv_of (by omega) (by omega))
 obtain ⟨F,a2,r2,fl,fn,fg,t2⟩:=f_lnames a1 r1 (1+v1) (by omega)
 obtain ⟨m,em,m1,m6,mm⟩:=sizes_at (n:=F.length) (by omega) (by omega)
 obtain ⟨v2,a3,r3,t3,h3⟩:=f_tk a2 r2 (b:=(m:Int)) (by omega) (cDiv_of (by omega) (by omega))
 obtain ⟨R,a4,r4,rl,rn,rg,t4⟩:=f_lnames a3 r3 (1+v2) (by omega)
 have okR:∀ z∈R,Ok z:=fun z hz=>(rg z hz).ok
 obtain ⟨O,a5,r5,po,t5⟩:=f_picked D.str R (fun ys hy=>ne_strs fun z hz=>okR z (hy z hz)) (plainsS R) (by omega) a4 r4
 have ol:O.length=R.length:=po.length_eq
 obtain ⟨is,a6,r6,y5,y6,q1,q2,q3,t6⟩:=pr_out (some (.li (F.map D.str))) (some (.li (R.map D.str))) O (by omega) (List.range O.length) [] a5 r5 none none List.nodup_range (fun k hk=>List.mem_range.mp hk) (by simp) (by simp) (by simp) (by simp; omega)
 have okO:∀ z∈O,Ok z:=fun z hz=>okR z (po.mem_iff.mp hz)
 have okp:∀ p∈is.map (pairOf O),OkP p:=fun p hp=>by
  obtain ⟨i,hi,rfl⟩:=List.mem_map.mp hp
  obtain ⟨l1,l2⟩:=q2 i hi
  exact ⟨okO _ (List.mem_of_getElem? (getD_get (by omega))),okO _ (List.mem_of_getElem? (getD_get l2))⟩
 obtain ⟨ps,a7,r7,pp,t7⟩:=f_picked pD (is.map (pairOf O)) (fun ys hy=>ne_prs fun z hz=>okp z (hy z hz)) (plainsP _) (by simp at q3 ⊢; omega) a6 r6
 have v:Valid F R ps:=by
  refine valid_of (O:=O) (is:=is) (by omega) (by omega) (by omega) (by omega) ?_ fn rn fg rg po q1 q2 pp
  have:F.length*R.length≤F.length*m:=Nat.mul_le_mul_left _ (by omega)
  omega
 refine ⟨F,R,ps,a7,r7,v,?_⟩
 simp only [tD]
 have hr:=rng0 O.length (by omega)
 have pF:=plainsS F
 have pR:=plainsS R
 have pO:=plainsS O
 have c1:((1:Int)+(v1:Int))=((1+v1:Nat):Int):=by omega
 have c2:((1:Int)+(v2:Int))=((1+v2:Nat):Int):=by omega
 have z4:(4:Nat)≤sizeLine:=by rw [sl_big']; omega
 have z3:(3:Nat)≤sizeLine:=by rw [sl_big']; omega
 have lO:(O.map D.str).length=O.length:=by simp
 have lF:(F.map D.str).length=F.length:=by simp
 generalize (List.range O.length).map nD=its at t6 hr
 generalize (is.map (pairOf O)).map pD=PD at t6 t7
 generalize ps.map pD=QD at t7 ⊢
 simp only [oD',Option.map_none,List.map_nil] at t6
 generalize F.map D.str=FD at *
 generalize R.map D.str=RD at *
 generalize O.map D.str=OD at *
 rw [← lF] at em
 rw [← lO] at hr
 simp [f_law_parts,runP,m_law_parts,M_law_parts,t1,c1,t2,pF,em,t3,c2,t4,pR,t5,pO,hr,t6,t7,z4,z3,tD,-oIx,-Int.natCast_add]
end My
namespace My
open PySem L2 M1
theorem _root_.M1.Valid.okR {F R:List Str} {ps:List Pr} (v:Valid F R ps):∀ z∈R,Ok z:=fun z hz=>(v.rg z hz).ok
theorem _root_.M1.Valid.okF {F R:List Str} {ps:List Pr} (v:Valid F R ps):∀ z∈F,Ok z:=fun z hz=>(v.fg z hz).ok
theorem idx_row (w:Str) (F':List Str) (r:Str):∀ (R:List Str),r∈R→(R.map (fun x=>(w,x))++cross F' R).idxOf (w,r)=R.idxOf r:=by
 intro R
 have:∀ (R:List Str) (rest:List Pr),r∈R→(R.map (fun x=>(w,x))++rest).idxOf (w,r)=R.idxOf r:=by
  intro R
  induction R with
  | nil=>intro rest h; cases h
  | cons x R ih=>
   intro rest h
   by_cases c:x=r
   ·subst c; simp [List.idxOf_cons]
   ·have hr:r∈R:=by
     rcases List.mem_cons.mp h with rfl | h
     ·exact absurd rfl c
     ·exact h
    have:=ih rest hr
    have b1:(x==r)=false:=by simpa using c
    have b2:(((w,x):Pr)==(w,r))=false:=by simpa using c
    rw [List.map_cons,List.cons_append,List.idxOf_cons,List.idxOf_cons,b1,b2]
    simp [this]
 exact this R (cross F' R)
theorem plc_eq {R:List Str} {w r:Str} (hr:r∈R):∀ {F:List Str},w∈F→plc F R w r=F.idxOf w*R.length+R.idxOf r
 | [],h=>by cases h
 | x :: F,h=>by
  have e:cross (x :: F) R=(R.map fun r=>(x,r))++cross F R:=rfl
  unfold plc
  rw [e]
  by_cases c:x=w
  ·subst c
   rw [idx_row x F r R hr]
   simp [List.idxOf_cons]
  ·have hw:w∈F:=by
    rcases List.mem_cons.mp h with rfl | h
    ·exact absurd rfl c
    ·exact h
   have b:(x==w)=false:=by simpa using c
   rw [List.idxOf_cons,b,cond_false,Nat.add_mul,Nat.one_mul]
   have ih:=plc_eq hr hw
   unfold plc at ih
   have ni:(w,r)∉R.map fun r=>(x,r):=by
    intro z
    obtain ⟨y,_,e⟩:=List.mem_map.mp z
    exact c (congrArg Prod.fst e)
   rw [List.idxOf_append,if_neg ni,ih,List.length_map]
   omega
theorem plc_lt {F R:List Str} {w r:Str} (hw:w∈F) (hr:r∈R):plc F R w r < F.length*R.length:=by
 have:=List.idxOf_lt_length_of_mem (cross_mem (p:=(w,r)).mpr ⟨hw,hr⟩)
 rw [cross_len] at this
 exact this
end My
namespace My
open PySem L2 M1
section
variable {F R:List Str} {ps:List Pr}
def selB (s:Nat):Nat→List Pr→List Pr
 | _,[]=>[]
 | n,p :: qs=>if s.testBit n then p :: selB s (n+1) qs else selB s (n+1) qs
theorem selB_app (s:Nat):∀ (n:Nat) (xs ys:List Pr),selB s n (xs++ys)=selB s n xs++selB s (n+xs.length) ys
 | n,[],ys=>by simp [selB]
 | n,x :: xs,ys=>by
  rw [List.cons_append,selB,selB,selB_app s (n+1) xs ys,List.length_cons,show n+1+xs.length=n+(xs.length+1) by omega]
  split <;> simp
theorem selB_sub (s:Nat):∀ (n:Nat) (xs:List Pr),(selB s n xs).Sublist xs
 | _,[]=>by simp [selB]
 | n,x :: xs=>by
  rw [selB]
  split
  ·exact (selB_sub s (n+1) xs).cons_cons x
  ·exact (selB_sub s (n+1) xs).cons x
theorem selB_filter (s:Nat):∀ (qs pre:List Pr),(pre++qs).Nodup→selB s pre.length qs=qs.filter fun p=>s.testBit ((pre++qs).idxOf p)
 | [],pre,_=>by simp [selB]
 | q :: qs,pre,nd=>by
  have e:pre++q :: qs=(pre++[q])++qs:=by simp
  have ih:=selB_filter s qs (pre++[q]) (by rw [← e]; exact nd)
  have hq:q∉pre:=by
   rw [List.nodup_append] at nd
   exact fun h=>nd.2.2 q h q (by simp) rfl
  have hi:(pre++q :: qs).idxOf q=pre.length:=by
   rw [List.idxOf_append,if_neg hq,List.idxOf_cons]
   simp
  rw [List.length_append,List.length_singleton,← e] at ih
  rw [selB,List.filter_cons,hi,ih]
def hld (F R:List Str) (s:Nat) (p:Pr):Bool:=s.testBit (plc F R p.1 p.2)
def rts (F R:List Str) (s:Nat):List Pr:=selB s 0 (cross F R)
theorem rts_eq (v:Valid F R ps) (s:Nat):rts F R s=(cross F R).filter (hld F R s):=by
 have:=selB_filter s (cross F R) [] (cross_nodup v.rn v.fn)
 exact this
theorem rts_mem (v:Valid F R ps) {s:Nat} {w r:Str} (hw:w∈F) (hr:r∈R):(w,r)∈rts F R s↔s.testBit (plc F R w r)=true:=by
 rw [rts_eq v,List.mem_filter,cross_mem]
 exact ⟨fun h=>h.2,fun h=>⟨⟨hw,hr⟩,h⟩⟩
theorem rts_in {s:Nat} {p:Pr} (h:p∈rts F R s):p.1∈F∧p.2∈R:=cross_mem.mp ((selB_sub s 0 _).subset h)
theorem rts_len (v:Valid F R ps) (s:Nat):(rts F R s).length≤12:=by
 have h1:=(selB_sub s 0 (cross F R)).length_le
 rw [cross_len] at h1
 exact Nat.le_trans h1 v.fr
theorem rts_ok (v:Valid F R ps) (s:Nat):∀ p∈rts F R s,OkP p:=fun p hp=>⟨v.okF _ (rts_in hp).1,v.okR _ (rts_in hp).2⟩
@[simp] theorem lk_ma:(offF F R ps).lookup ("rights":Str)=none:=lk_none (by decide)
@[simp] theorem lk_mb:(offF F R ps).lookup ("state_of":Str)=none:=lk_none (by decide)
theorem rt_comp (s:Nat):∀ (qs:List Pr) (n:Nat) (x0 x1:Option D),compM (gSq 2 (gCs (gN 0) (gCs (gN 1) gNs))) (mTruth (m2 oNe (m2 oAnd (mV 2) (mV 1)) (mC (.int 0)))) (mV 0) ((kvB n qs).map fun kv=>.tup [.tup (kv.1.map kD),kv.2]) [oD' x0,oD' x1,sI' s]=some ((selB s n qs).map pD)
 | [],n,x0,x1=>rfl
 | q :: qs,n,x0,x1=>by
  have ih:=rt_comp s qs (n+1) (some (pD q)) (some (.int (2 ^ n:Nat)))
  have h5:=and_pow s n
  rw [kvB,List.map_cons,compM,selB]
  simp only [oD',Option.map_some,sI'] at ih ⊢
  simp only [keyP,List.map_cons,List.map_nil,kD]
  rw [show D.tup [.str q.1,.str q.2]=pD q from rfl]
  generalize 2 ^ n=b at h5 ih ⊢
  generalize hdq:pD q=dq at ih ⊢
  cases c:s.testBit n
  ·rw [c] at h5
   simp [bAnd,neI',int0,h5,ih]
  ·rw [c] at h5
   simp [bAnd,neI',int0,h5,ih,hdq]
theorem f_rights (v:Valid F R ps) {s:Nat} (hs:s < 2 ^ (F.length*R.length)):f_Office_rights [oO F R ps,.int s]=some (.li ((rts F R s).map pD)):=by
 have h1:=f_mbs (ps:=ps) hs
 have h:=rt_comp s (cross F R) 0 none none
 have hl:(kvB 0 (cross F R)).length≤sizeLine:=by rw [kvB_len,cross_len,sl_big']; have:=v.fr; omega
 simp only [oD',Option.map_none,sI'] at h
 have h':selB s 0 (cross F R)=rts F R s:=rfl
 rw [h'] at h
 generalize (rts F R s).map pD=RD at h ⊢
 generalize hk:((kvB 0 (cross F R)).map fun kv=>D.tup [.tup (kv.1.map kD),kv.2])=its at h
 have hl':its.length≤sizeLine:=by rw [← hk,List.length_map]; exact hl
 have hi:itemsZ (.dZ (kvB 0 (cross F R)))=some its:=by rw [← hk]; rfl
 simp [f_Office_rights,runF,m_Office_rights,M_Office_rights,h1,h,hi,hl',-itemsZ]
theorem bit_at (s n:Nat):(oShr (.int s) (.int n)).bind (fun x=>(oAnd x (.int 1)).bind fun y=>oEq y (.int 1))=some (.bl (s.testBit n)):=by
 have e5:oShr (.int s) (.int n)=some (.int ((s / 2 ^ n:Nat):Int)):=by
  have:((s:Int) / (2:Int) ^ ((n:Int)).toNat)=((s / 2 ^ n:Nat):Int):=by rw [Int.toNat_natCast]; simp
  simp [oShr,fI,this]
 have e6:oAnd (.int ((s / 2 ^ n:Nat):Int)) (.int 1)=some (.int ((s / 2 ^ n%2:Nat):Int)):=by
  have:=bAnd (s / 2 ^ n) 1
  simp only [oAnd,fI]
  rw [show (1:Int)=((1:Nat):Int) from rfl,this,Nat.and_one_is_mod]
 have e7:oEq (.int ((s / 2 ^ n%2:Nat):Int)) (.int 1)=some (.bl (s.testBit n)):=by
  rw [eqI',Nat.testBit_eq_decide_div_mod_eq]
  congr 2
  generalize s / 2 ^ n%2=x
  rw [Bool.eq_iff_iff]; simp; omega
 rw [e5,Option.bind_some,e6,Option.bind_some,e7]
theorem lr_in (s0 s1:Option SV) (s:Nat) (w:Str):∀ (rs:List Str) (ac:List Pr) (n:Nat) (x6:Option D),ac.length+rs.length≤1000→∃ y6,loopM (gN 6) b_law_rights_0 (rs.map D.str) [s0,s1,sI' s,some (.li (ac.map pD)),sI' n,some (.sh (.str w)),oD' x6] =
  .nx [s0,s1,sI' s,some (.li ((ac++selB s n (rs.map fun r=>(w,r))).map pD)),sI' ((n+rs.length:Nat):Int),some (.sh (.str w)),oD' y6]
 | [],ac,n,x6,_=>⟨x6,by simp [loopM,selB]⟩
 | r :: rs,ac,n,x6,hl=>by
  simp only [List.length_cons] at hl
  have hb:=bit_at s n
  obtain ⟨x,e1,hb⟩:=bind1 hb
  obtain ⟨y,e2,e3⟩:=bind1 hb
  have hz:(ac.map pD).length < sizeLine:=by rw [sl_big']; simp; omega
  have z2:(2:Nat)≤sizeLine:=by rw [sl_big']; omega
  have en:((n:Nat):Int)+1=((n+1:Nat):Int):=by omega
  cases c:s.testBit n
  ·obtain ⟨y6,h⟩:=lr_in s0 s1 s w rs ac (n+1) (some (.str r)) (by omega)
   refine ⟨y6,?_⟩
   rw [c] at e3
   rw [List.map_cons,List.map_cons,selB,c,show n+(r :: rs).length=n+1+rs.length by rw [List.length_cons]; omega]
   simp only [Bool.false_eq_true,if_false]
   rw [← h,loopM]
   generalize ac.map pD=AD at hz ⊢
   simp only [oD',Option.map_some,sI']
   simp [b_law_rights_0,e1,e2,e3,en,-Int.natCast_add]
  ·obtain ⟨y6,h⟩:=lr_in s0 s1 s w rs (ac++[(w,r)]) (n+1) (some (.str r)) (by simp; omega)
   refine ⟨y6,?_⟩
   rw [c] at e3
   rw [List.map_cons,List.map_cons,selB,c,show n+(r :: rs).length=n+1+rs.length by rw [List.length_cons]; omega]
   simp only [if_true]
   rw [show ac++(w,r) :: selB s (n+1) (rs.map fun r=>(w,r))=(ac++[(w,r)])++selB s (n+1) (rs.map fun r=>(w,r)) by simp,← h,loopM]
   rw [List.map_append (f:=pD) (l₁:=ac)]
   generalize ac.map pD=AD at hz ⊢
   simp only [oD',Option.map_some,sI']
   simp [b_law_rights_0,e1,e2,e3,en,hz,z2,pD,-Int.natCast_add]
theorem lr_out (s0:Option SV) (R:List Str) (h6:R.length≤6) (s:Nat):∀ (ws:List Str) (ac:List Pr) (n:Nat) (x5 x6:Option D),ac.length+6*ws.length≤900→∃ y5 y6,loopM (gN 5) b_law_rights_1 (ws.map D.str) [s0,some (.sh (.lst (R.map D.str))),sI' s,some (.li (ac.map pD)),sI' n,oD' x5,oD' x6] =
  .nx [s0,some (.sh (.lst (R.map D.str))),sI' s,some (.li ((ac++selB s n (cross ws R)).map pD)),sI' ((n+ws.length*R.length:Nat):Int),oD' y5,oD' y6]
 | [],ac,n,x5,x6,_=>⟨x5,x6,by simp [loopM,selB,cross]⟩
 | w :: ws,ac,n,x5,x6,hl=>by
  simp only [List.length_cons] at hl
  obtain ⟨z6,h1⟩:=lr_in s0 (some (.sh (.lst (R.map D.str)))) s w R ac n x6 (by omega)
  have l1:=(selB_sub s n (R.map fun r=>(w,r))).length_le
  rw [List.length_map] at l1
  obtain ⟨y5,y6,h⟩:=lr_out s0 R h6 s ws (ac++selB s n (R.map fun r=>(w,r))) (n+R.length) (some (.str w)) z6 (by rw [List.length_append]; omega)
  refine ⟨y5,y6,?_⟩
  have e:cross (w :: ws) R=(R.map fun r=>(w,r))++cross ws R:=rfl
  rw [e,selB_app,List.length_map,← List.append_assoc,List.length_cons,Nat.add_mul,Nat.one_mul,show n+(ws.length*R.length+R.length)=n+R.length+ws.length*R.length by omega,← h,List.map_cons,loopM]
  generalize (ac++selB s n (R.map fun r=>(w,r))).map pD=A2 at h1 ⊢
  generalize ac.map pD=A1 at h1 ⊢
  generalize R.map D.str=RD at h1 ⊢
  simp only [oD',Option.map_some,sI'] at h1 ⊢
  simp [b_law_rights_1,B_law_rights_1,h1,itemsD,-Int.natCast_add]
theorem f_lrights (v:Valid F R ps) (s:Nat):f_law_rights [.lst (F.map D.str),.lst (R.map D.str),.int s]=some (.li ((rts F R s).map pD)):=by
 have f4:=v.f4
 obtain ⟨y5,y6,h⟩:=lr_out (some (.sh (.lst (F.map D.str)))) R v.r6 s F [] 0 none none (by simp; omega)
 rw [List.nil_append,show selB s 0 (cross F R)=rts F R s from rfl] at h
 simp only [oD',Option.map_none,sI',List.map_nil] at h
 generalize (rts F R s).map pD=T at h ⊢
 generalize F.map D.str=FD at h ⊢
 generalize R.map D.str=RD at h ⊢
 rw [show (((0:Nat):Int))=0 from rfl] at h
 simp [f_law_rights,runF,m_law_rights,M_law_rights,h,itemsD]
end
end My
namespace My
open PySem L2 M1
section
variable {F R:List Str} {ps:List Pr}
theorem isI (n:Int):fIsF tab [.int n,.ty "int"]=some (.sh (.bl true)):=rfl
theorem isIB (n:Int):fIsF tab [.int n,.ty "bool"]=some (.sh (.bl false)):=rfl
theorem isBB (b:Bool):fIsF tab [.bl b,.ty "bool"]=some (.sh (.bl true)):=rfl
theorem isLL (xs:List D):fIsF tab [.lst xs,.ty "list"]=some (.sh (.bl true)):=rfl
theorem nd_inj {α:Type} {zs:List α} (nd:zs.Nodup) {i j:Nat} (hi:i < zs.length) (hj:j < zs.length) (h:zs[i]=zs[j]):i=j:=by
 have:=List.pairwise_iff_getElem.mp nd
 rcases Nat.lt_trichotomy i j with c | c | c
 ·exact absurd h (this i j hi hj c)
 ·exact c
 ·exact absurd h.symm (this j i hj hi c)
theorem zi_idx {zs:List Str} (nd:zs.Nodup) {q:Str×Nat} (h:q∈zs.zipIdx):q.1∈zs∧zs.idxOf q.1=q.2:=by
 have h:=List.mem_zipIdx_iff_getElem?.mp h
 have hm:=List.mem_of_getElem? h
 refine ⟨hm,?_⟩
 obtain ⟨h1,h2⟩:=List.getElem?_eq_some_iff.mp h
 have a:=List.getElem_idxOf (List.idxOf_lt_length_of_mem hm)
 exact nd_inj nd _ _ (a.trans h2.symm)
def eD (q:Str×Nat):D:=.tup [.int (q.2:Nat),.str q.1]
theorem zi_map (zs:List Str):((zs.map D.str).zipIdx.map fun p=>D.tup [.int (p.2:Nat),p.1])=zs.zipIdx.map eD:=by
 rw [List.zipIdx_map,List.map_map]
 rfl
theorem lb_in (v:Valid F R ps) {w:Str} (hw:w∈F):∀ (qs:List (Str×Nat)) (x5 x6:Option D) (s7:Option SV),(∀ q∈qs,q∈R.zipIdx)→lkO s7=false→∃ y5 y6 t7,lkO t7=false∧
  loopM (gSq 2 (gCs (gN 5) (gCs (gN 6) gNs))) b_law_bits_0 (qs.map eD) [some (.sh (oO F R ps)),some (.sh (.lst (F.map D.str))),some (.sh (.lst (R.map D.str))),sI' (F.idxOf w:Nat),some (.sh (.str w)),oD' x5,oD' x6,s7] =
  .nx [some (.sh (oO F R ps)),some (.sh (.lst (F.map D.str))),some (.sh (.lst (R.map D.str))),sI' (F.idxOf w:Nat),some (.sh (.str w)),oD' y5,oD' y6,t7]
 | [],x5,x6,s7,_,l7=>⟨x5,x6,s7,l7,rfl⟩
 | q :: qs,x5,x6,s7,hq,l7=>by
  obtain ⟨hr,hi⟩:=zi_idx v.rn (hq q (by simp))
  obtain ⟨y5,y6,t7,m7,h⟩:=lb_in v hw qs (some (.int (q.2:Nat))) (some (.str q.1)) (some (.sh (.int (2 ^ plc F R w q.1:Nat)))) (fun z hz=>hq z (by simp [hz])) rfl
  refine ⟨y5,y6,t7,m7,?_⟩
  have g1:=f_bit v hw hr
  have e2:=plc_eq hr hw
  have fr:=v.fr
  have r6:=v.r6
  have hp:=plc_lt hw hr
  have e3:=shl_pow (plc F R w q.1) (by omega)
  have cm:cMulB ((F.idxOf w:Nat):Int) (R.length:Int)=true:=cMul_r (by omega) (by omega)
  have e4:((F.idxOf w:Nat):Int)*(R.length:Int)+(q.2:Nat)=((plc F R w q.1:Nat):Int):=by rw [e2,hi]; simp
  have lR:(R.map D.str).length=R.length:=by simp
  rw [← h,List.map_cons,loopM]
  generalize (2 ^ plc F R w q.1:Nat)=T at g1 e3 ⊢
  generalize ((plc F R w q.1:Nat):Int)=pl at e3 e4
  generalize F.idxOf w=iw at cm e4 ⊢
  rw [← lR] at cm e4
  generalize R.map D.str=RD at cm e4 ⊢
  generalize F.map D.str=FD at ⊢
  simp only [oD',Option.map_some,sI',eD] at *
  simp [b_law_bits_0,B_law_bits_0,g1,l7,isI,isIB,cm,e4,e3,neI']
theorem lb_out (v:Valid F R ps):∀ (qs:List (Str×Nat)) (x3 x4 x5 x6:Option D) (s7:Option SV),(∀ q∈qs,q∈F.zipIdx)→lkO s7=false→∃ y3 y4 y5 y6 t7,lkO t7=false∧
  loopM (gSq 2 (gCs (gN 3) (gCs (gN 4) gNs))) b_law_bits_1 (qs.map eD) [some (.sh (oO F R ps)),some (.sh (.lst (F.map D.str))),some (.sh (.lst (R.map D.str))),oD' x3,oD' x4,oD' x5,oD' x6,s7] =
  .nx [some (.sh (oO F R ps)),some (.sh (.lst (F.map D.str))),some (.sh (.lst (R.map D.str))),oD' y3,oD' y4,oD' y5,oD' y6,t7]
 | [],x3,x4,x5,x6,s7,_,l7=>⟨x3,x4,x5,x6,s7,l7,rfl⟩
 | q :: qs,x3,x4,x5,x6,s7,hq,l7=>by
  obtain ⟨hw,hi⟩:=zi_idx v.fn (hq q (by simp))
  obtain ⟨z5,z6,u7,n7,h1⟩:=lb_in v hw R.zipIdx x5 x6 s7 (fun _ h=>h) l7
  obtain ⟨y3,y4,y5,y6,t7,m7,h⟩:=lb_out v qs (some (.int (q.2:Nat))) (some (.str q.1)) z5 z6 u7 (fun z hz=>hq z (by simp [hz])) n7
  refine ⟨y3,y4,y5,y6,t7,m7,?_⟩
  rw [hi] at h1
  have hp:=plainsS R
  have hm:=zi_map R
  rw [← h,List.map_cons,loopM]
  generalize R.zipIdx.map eD=its at h1 hm
  have hE:itemsE [.lst (R.map D.str)]=some its:=by simp only [itemsE,hm]
  generalize R.map D.str=RD at h1 hp hE ⊢
  generalize F.map D.str=FD at h1 ⊢
  simp only [oD',Option.map_some,sI',eD] at h1 ⊢
  simp [b_law_bits_1,B_law_bits_1,hp,hE,h1,-itemsE]
theorem f_lbits (v:Valid F R ps):f_law_bits [oO F R ps,.lst (F.map D.str),.lst (R.map D.str)]=some (.sh (.bl true)):=by
 obtain ⟨y3,y4,y5,y6,t7,m7,h⟩:=lb_out v F.zipIdx none none none none none (fun _ h=>h) rfl
 have hp:=plainsS F
 have hm:=zi_map F
 have hn:=f_nbits (F:=F) (R:=R) (ps:=ps)
 have f4:=v.f4
 have r6:=v.r6
 have cm:cMulB (F.length:Int) (R.length:Int)=true:=cMul_r (by omega) (by omega)
 have e:(F.length:Int)*(R.length:Int)=((F.length*R.length:Nat):Int):=by simp
 have lF:(F.map D.str).length=F.length:=by simp
 have lR:(R.map D.str).length=R.length:=by simp
 rw [← lF,← lR] at cm e
 rw [lF,lR] at e
 generalize F.zipIdx.map eD=its at h hm
 have hE:itemsE [.lst (F.map D.str)]=some its:=by simp only [itemsE,hm]
 generalize ((F.length*R.length:Nat):Int)=nb at hn e
 rw [← lF,← lR] at e
 simp only [oD',Option.map_none] at h
 generalize R.map D.str=RD at h cm e ⊢
 generalize F.map D.str=FD at h hp hE cm e ⊢
 simp [f_law_bits,runF,m_law_bits,M_law_bits,hp,hE,h,hn,cm,e,eqI',-itemsE]
theorem f_wh (b:Bool) (d:D) (i j:Bool) (h1:fIsF tab [d,.ty "int"]=some (.sh (.bl i))) (h2:fIsF tab [d,.ty "bool"]=some (.sh (.bl j))) (h:(i&&!j)=false):f_is_whole [d]=some (.sh (.bl false)):=by
 cases i
 ·simp [f_is_whole,runF,m_is_whole,h1,h2]
 ·cases j
  ·cases h
  ·simp [f_is_whole,runF,m_is_whole,h1,h2]
theorem f_nost {d:D} (h:f_is_whole [d]=some (.sh (.bl false))):f_Office_is_state [oO F R ps,d]=some (.sh (.bl false)):=by
 simp [f_Office_is_state,runF,m_Office_is_state,M_Office_is_state,h]
theorem f_neg {n:Int} (h:n < 0):f_Office_is_state [oO F R ps,.int n]=some (.sh (.bl false)):=by
 have h1:=f_whole n
 have h5:¬ (0:Int)≤n:=by omega
 simp [f_Office_is_state,runF,m_Office_is_state,M_Office_is_state,h1,h5]
theorem intBits_pow (n:Nat):Builtin.Int.intBits ((2 ^ n:Nat):Int)=n+1:=by
 unfold Builtin.Int.intBits
 have p0:0 < (2 ^ n:Nat):=Nat.pos_of_ne_zero (by simp)
 have e:(((2 ^ n:Nat):Int)==0)=false:=by simp only [beq_eq_false_iff_ne]; omega
 rw [e]
 simp only [Bool.false_eq_true,if_false,Int.natAbs_natCast,Nat.log2_two_pow]
theorem f_big:f_Office_is_state [oO F R ps,.int (2 ^ (F.length*R.length):Nat)]=some (.sh (.bl false)):=by
 have h1:=f_whole ((2 ^ (F.length*R.length):Nat):Int)
 have h2:=f_nbits (F:=F) (R:=R) (ps:=ps)
 have h3:=intBits_pow (F.length*R.length)
 have h5:(0:Int)≤((2 ^ (F.length*R.length):Nat):Int):=Int.natCast_nonneg _
 have h4:¬ ((Builtin.Int.intBits ((2 ^ (F.length*R.length):Nat):Int):Nat):Int)≤((F.length*R.length:Nat):Int):=by omega
 generalize ((F.length*R.length:Nat):Int)=n at h2 h4
 generalize ((2 ^ (F.length*R.length):Nat):Int)=m at h1 h4 h5 ⊢
 simp [f_Office_is_state,runF,m_Office_is_state,M_Office_is_state,h1,h2,h4,h5]
theorem eq33:oEq (.lst [.bl true,.bl true,.bl true]) (.lst [.bl true,.bl true,.bl true])=some (.bl true):=by rfl
theorem eq99:oEq (.lst [.bl false,.bl false,.bl false,.bl false,.bl false,.bl false,.bl false,.bl false,.bl false]) (.lst [.bl false,.bl false,.bl false,.bl false,.bl false,.bl false,.bl false,.bl false,.bl false])=some (.bl true):=by rfl
theorem f_lstates (v:Valid F R ps) {s:Nat} (hs:s < 2 ^ (F.length*R.length)):f_law_states [oO F R ps,.int s,.int (F.length*R.length:Nat)]=some (.sh (.bl true)):=by
 have fr:=v.fr
 have n1:1≤F.length*R.length:=Nat.mul_pos v.f1 v.r1
 have p0:0 < (2 ^ (F.length*R.length):Nat):=Nat.pos_of_ne_zero (by simp)
 have a1:=f_isst (ps:=ps) hs
 have a2:=f_isst (ps:=ps) p0
 have a3:=f_isst (ps:=ps) (s:=2 ^ (F.length*R.length)-1) (F:=F) (R:=R) (by omega)
 have b1:=f_big (F:=F) (R:=R) (ps:=ps)
 have b2:=f_neg (F:=F) (R:=R) (ps:=ps) (n:=-1) (by omega)
 have b3:=f_neg (F:=F) (R:=R) (ps:=ps) (n:=0-(s:Int)-1) (by omega)
 have b4:=f_nost (F:=F) (R:=R) (ps:=ps) (d:=.bl true) (f_wh true _ _ _ rfl rfl rfl)
 have b5:=f_nost (F:=F) (R:=R) (ps:=ps) (d:=.bl false) (f_wh true _ _ _ rfl rfl rfl)
 have b6:=f_nost (F:=F) (R:=R) (ps:=ps) (d:=.non) (f_wh true _ _ _ rfl rfl rfl)
 have b7:=f_nost (F:=F) (R:=R) (ps:=ps) (d:=.str "1") (f_wh true _ _ _ rfl rfl rfl)
 have b8:=f_nost (F:=F) (R:=R) (ps:=ps) (d:=.lst [.int 0]) (f_wh true _ _ _ rfl rfl rfl)
 have b9:=f_nost (F:=F) (R:=R) (ps:=ps) (d:=.tup [.int 0]) (f_wh true _ _ _ rfl rfl rfl)
 have c1:=shl_pow (F.length*R.length) (by omega)
 have c2:=shl_pow (F.length*R.length-1) (by omega)
 have pp:2*2 ^ (F.length*R.length-1)=2 ^ (F.length*R.length):=by
  rw [← Nat.pow_succ']
  congr 1
  omega
 have e2:((F.length*R.length:Nat):Int)-1=((F.length*R.length-1:Nat):Int):=by omega
 rw [← e2] at c2
 have cm:cMulB 2 ((2 ^ (F.length*R.length-1):Nat):Int)=true:=cMul_l (by omega) (by omega)
 have e3:2*((2 ^ (F.length*R.length-1):Nat):Int)-1=((2 ^ (F.length*R.length)-1:Nat):Int):=by omega
 rw [show (((0:Nat):Int))=0 from rfl] at a2
 generalize ((2 ^ (F.length*R.length)-1:Nat):Int)=T at a3 e3
 generalize ((2 ^ (F.length*R.length-1):Nat):Int)=U at c2 cm e3
 generalize ((2 ^ (F.length*R.length):Nat):Int)=W at b1 c1
 generalize ((F.length*R.length:Nat):Int)=nb at c1 c2 ⊢
 have z1:(1:Nat)≤sizeLine:=by rw [sl_big']; omega
 have z3:(3:Nat)≤sizeLine:=by rw [sl_big']; omega
 have z9:(9:Nat)≤sizeLine:=by rw [sl_big']; omega
 have q3:=eq33
 have q9:=eq99
 have k1:(List.replicate 3 [D.bl true]).flatten=[.bl true,.bl true,.bl true]:=rfl
 have k2:(List.replicate 9 [D.bl false]).flatten=[.bl false,.bl false,.bl false,.bl false,.bl false,.bl false,.bl false,.bl false,.bl false]:=rfl
 simp only [Int.zero_sub] at b3
 have i3:atI [D.bl true,.bl true,.bl true] 0=some (.bl true):=rfl
 have i9:atI [D.bl false,.bl false,.bl false,.bl false,.bl false,.bl false,.bl false,.bl false,.bl false] 0=some (.bl false):=rfl
 simp [f_law_states,runF,m_law_states,M_law_states,compM,a1,a2,a3,b1,b2,b3,b4,b5,b6,b7,b8,b9,c1,c2,cm,e3,z1,z3,z9,k1,k2,q3,q9,i3,i9,isBB,itemsD]
theorem so_loop (v:Valid F R ps) (s1:Option SV):∀ (qs:List Pr) (m:Nat) (x3 x4:Option D),(∀ q∈qs,q.1∈F∧q.2∈R)→∃ y3 y4,
  loopM (gSq 2 (gCs (gN 3) (gCs (gN 4) gNs))) b_Office_state_of_0 (qs.map pD) [some (.sh (oO F R ps)),s1,sI' m,oD' x3,oD' x4] =
  .nx [some (.sh (oO F R ps)),s1,sI' ((qs.foldl (fun m p=>m|||2 ^ plc F R p.1 p.2) m:Nat):Int),oD' y3,oD' y4]
 | [],m,x3,x4,_=>⟨x3,x4,rfl⟩
 | q :: qs,m,x3,x4,hq=>by
  obtain ⟨hw,hr⟩:=hq q (by simp)
  obtain ⟨y3,y4,h⟩:=so_loop v s1 qs (m|||2 ^ plc F R q.1 q.2) (some (.str q.1)) (some (.str q.2)) (fun z hz=>hq z (by simp [hz]))
  refine ⟨y3,y4,?_⟩
  have g1:=f_bit v hw hr
  have g2:=bOr m (2 ^ plc F R q.1 q.2)
  rw [List.foldl_cons,← h,List.map_cons,loopM]
  generalize (2 ^ plc F R q.1 q.2:Nat)=T at g1 g2 ⊢
  simp only [oD',Option.map_some,sI',pD]
  simp [b_Office_state_of_0,B_Office_state_of_0,g1,g2]
theorem orM_bit (i:Nat):∀ (qs:List Pr) (m:Nat),(qs.foldl (fun m p=>m|||2 ^ plc F R p.1 p.2) m).testBit i=(m.testBit i||qs.any fun p=>decide (plc F R p.1 p.2=i))
 | [],m=>by simp
 | u :: us,m=>by
  rw [List.foldl_cons,orM_bit i us,Nat.testBit_or,Nat.testBit_two_pow,List.any_cons,Bool.or_assoc]
theorem or_rts (v:Valid F R ps) {s:Nat} (hs:s < 2 ^ (F.length*R.length)) {qs:List Pr} (hq:∀ p,p∈qs↔p∈rts F R s):qs.foldl (fun m p=>m|||2 ^ plc F R p.1 p.2) 0=s:=by
 refine Nat.eq_of_testBit_eq fun i=>?_
 rw [orM_bit,Nat.zero_testBit,Bool.false_or,Bool.eq_iff_iff,List.any_eq_true]
 constructor
 ·rintro ⟨p,hp,e⟩
  have hp:=(hq p).mp hp
  have e:=of_decide_eq_true e
  obtain ⟨h1,h2⟩:=rts_in hp
  rw [← e]
  exact (rts_mem v h1 h2).mp hp
 ·intro h
  have hi:i < (cross F R).length:=by
   rw [cross_len]
   refine Classical.byContradiction fun n=>?_
   have:=Nat.testBit_lt_two_pow (Nat.lt_of_lt_of_le hs (Nat.pow_le_pow_right (by omega:0 < 2) (by omega:F.length*R.length≤i)))
   rw [this] at h
   cases h
  have hm:=List.getElem_mem hi
  obtain ⟨h1,h2⟩:=cross_mem.mp hm
  have hp:plc F R (cross F R)[i].1 (cross F R)[i].2=i:=by
   have a:=List.getElem_idxOf (List.idxOf_lt_length_of_mem hm)
   exact nd_inj (cross_nodup v.rn v.fn) _ _ a
  exact ⟨_,(hq _).mpr ((rts_mem v h1 h2).mpr (by rw [hp]; exact h)),decide_eq_true hp⟩
theorem f_stof (v:Valid F R ps) {s:Nat} (hs:s < 2 ^ (F.length*R.length)) {qs:List Pr} (hq:∀ p,p∈qs↔p∈rts F R s):f_Office_state_of [oO F R ps,.lst (qs.map pD)]=some (.sh (.int s))∧f_Office_state_of [oO F R ps,.tup (qs.map pD)]=some (.sh (.int s)):=by
 have hin:∀ q∈qs,q.1∈F∧q.2∈R:=fun q h=>rts_in ((hq q).mp h)
 obtain ⟨y3,y4,h1⟩:=so_loop v (some (.sh (.lst (qs.map pD)))) qs 0 none none hin
 obtain ⟨z3,z4,h2⟩:=so_loop v (some (.sh (.tup (qs.map pD)))) qs 0 none none hin
 rw [or_rts v hs hq] at h1 h2
 simp only [oD',Option.map_none,sI'] at h1 h2
 rw [show (((0:Nat):Int))=0 from rfl] at h1 h2
 generalize qs.map pD=QD at h1 h2 ⊢
 refine ⟨?_,?_⟩
 ·simp [f_Office_state_of,runF,m_Office_state_of,M_Office_state_of,h1,itemsD]
 ·simp [f_Office_state_of,runF,m_Office_state_of,M_Office_state_of,h2,itemsD]
end
end My
namespace My
open PySem L2 M1
section
variable {F R:List Str} {ps:List Pr}
theorem eqv_strs:∀ xs:List Str,PyData.eqvAll (xs.map PyData.str) (xs.map PyData.str)=true
 | []=>by simp [PyData.eqvAll]
 | x :: xs=>by
  rw [List.map_cons,PyData.eqvAll,eqv_strs xs]
  have:=anyS x [x]
  simp only [List.map_cons,List.map_nil,List.any_cons,List.any_nil,Bool.or_false,List.mem_singleton] at this
  rw [this]
  simp
theorem eqv_prs:∀ xs:List Pr,PyData.eqvAll (xs.map pP) (xs.map pP)=true
 | []=>by simp [PyData.eqvAll]
 | x :: xs=>by rw [List.map_cons,PyData.eqvAll,eqv_prs xs,eqvP]; simp
theorem ne_self {zs:List Str} (h:∀ z∈zs,Ok z):oNe (.lst (zs.map D.str)) (.lst (zs.map D.str))=some (.bl false):=by
 have e:shp (.lst (zs.map D.str))=some (.list (zs.map PyData.str)):=by simp [shp,D.dat,datsS,shLS h]
 simp [oNe,e,PyData.eqv,eqv_strs]
theorem shp_prs {zs:List Pr} (h:∀ z∈zs,OkP z):shp (.lst (zs.map pD))=some (.list (zs.map pP)):=by simp [shp,D.dat,pD_dats,shLP h]
theorem ne_selfP {zs:List Pr} (h:∀ z∈zs,OkP z):oNe (.lst (zs.map pD)) (.lst (zs.map pD))=some (.bl false):=by
 simp [oNe,shp_prs h,PyData.eqv,eqv_prs]
theorem eq_selfP {zs:List Pr} (h:∀ z∈zs,OkP z):oEq (.lst (zs.map pD)) (.lst (zs.map pD))=some (.bl true):=by
 simp [oEq,shp_prs h,PyData.eqv,eqv_prs]
theorem cut_last (xs:List D) (y:D):cutG (xs++[y]) none (some (-1))=xs:=by
 have h0:HT.sIx (xs++[y]).length 0 none=0:=rfl
 have h1:HT.sIx (xs++[y]).length (xs++[y]).length (some (-1))=xs.length:=by
  simp [HT.sIx]
  omega
 rw [cutG,h0,h1,List.drop_zero,Nat.sub_zero,List.take_left]
theorem cut_front {α:Type} (xs:List α) (n:Nat):cutG xs none (some (n:Int))=xs.take n:=by
 have h0:HT.sIx xs.length 0 none=0:=rfl
 rw [cutG,h0,List.drop_zero,Nat.sub_zero]
 have h1:HT.sIx xs.length xs.length (some (n:Int))=min n xs.length:=by
  simp [HT.sIx]
  omega
 rw [h1]
 by_cases c:n≤xs.length
 ·rw [Nat.min_eq_left c]
 ·rw [Nat.min_eq_right (by omega),List.take_length,List.take_of_length_le (by omega)]
theorem in_comp (v:Valid F R ps) {r:Str} (hr:r∈R) (s:Nat) :
  compM (gN 0) (mTruth (m2 oIn (mTup (mCons (mV 0) (mCons (mV 2) mNil))) (mV 1))) (mV 0) (F.map D.str) [none,some (.sh (.lst ((rts F R s).map pD))),some (.sh (.str r))]=some ((F.filter fun w=>s.testBit (plc F R w r)).map D.str):=by
 have h:=compF D.str [some (.sh (.lst ((rts F R s).map pD))),some (.sh (.str r))] (mTruth (m2 oIn (mTup (mCons (mV 0) (mCons (mV 2) mNil))) (mV 1))) (mV 0) (fun w=>s.testBit (plc F R w r)) D.str F (fun w hw=>by
  refine ⟨?_,fun _=>rfl⟩
  have h1:=inLP (z:=(w,r)) (zs:=rts F R s) ⟨v.okF w hw,v.okR r hr⟩ (rts_ok v s)
  have h2:decide ((w,r)∈rts F R s)=s.testBit (plc F R w r):=by rw [Bool.eq_iff_iff,decide_eq_true_iff]; exact rts_mem v hw hr
  rw [h2] at h1
  have h4:(2:Nat)≤sizeLine:=by rw [sl_big']; omega
  simp only [pD] at h1
  generalize (rts F R s).map (fun p=>D.tup [.str p.1,.str p.2])=T at h1
  have h1':oIn (.tup [.str w,.str r]) (.lst ((rts F R s).map pD))=some (.bl (s.testBit (plc F R w r))):=by
   simp only [oIn]
   have:=inLP (z:=(w,r)) (zs:=rts F R s) ⟨v.okF w hw,v.okR r hr⟩ (rts_ok v s)
   rw [h2] at this
   simp only [pD] at this ⊢
   rw [this]; rfl
  generalize (rts F R s).map pD=U at h1'
  simp [h1',h4]) none
 simp only [oD',Option.map_none] at h
 exact h
noncomputable abbrev rS (F R:List Str) (ps:List Pr) (a:Int) (q:List Int) (s:Nat) (s5 s8 s9 s10 s11:Option SV):FSt:=[some (.pu (a :: q)),some (.sh (.lst (F.map D.str))),some (.sh (.lst (R.map D.str))),some (.sh (.lst (ps.map pD))),some (.sh (oO F R ps)),s5,sI' s,some (.li ((rts F R s).map pD)),s8,s9,s10,s11]
theorem r0_loop (v:Valid F R ps) (a:Int) (q:List Int) {s:Nat} (hs:s < 2 ^ (F.length*R.length)) (s5 s9 s10:Option SV):∀ (rs:List Str) (x11:Option D) (s8:Option SV),(∀ r∈rs,r∈R)→lkO s8=false→∃ (y11:Option D) (t8:Option SV),
  loopM (gN 11) b_law_right_0 (rs.map D.str) (rS F R ps a q s s5 s8 s9 s10 (oD' x11))=.nx (rS F R ps a q s s5 t8 s9 s10 (oD' y11))
 | [],x11,s8,_,_=>⟨x11,s8,rfl⟩
 | r :: rs,x11,s8,hr,l8=>by
  have hr':=hr r (by simp)
  obtain ⟨y11,t8,h⟩:=r0_loop v a q hs s5 s9 s10 rs (some (.str r)) (some (.li (((F.filter fun w=>s.testBit (plc F R w r)).map D.str)++[.str "q"]))) (fun z hz=>hr z (by simp [hz])) rfl
  refine ⟨y11,t8,?_⟩
  have g1:=f_holders v hs hr'
  have g2:=in_comp v hr' s
  have g3:=ne_self (zs:=F.filter fun w=>s.testBit (plc F R w r)) fun z hz=>v.okF z (List.mem_filter.mp hz).1
  have pB:=plainsS (F.filter fun w=>s.testBit (plc F R w r))
  have f4:=v.f4
  have lH:((F.filter fun w=>s.testBit (plc F R w r)).map D.str).length < sizeLine:=by
   have:=List.length_filter_le (fun w=>s.testBit (plc F R w r)) F
   rw [sl_big',List.length_map]; omega
  have lF:(F.map D.str).length≤sizeLine:=by rw [sl_big',List.length_map]; omega
  have g4:=cut_last ((F.filter fun w=>s.testBit (plc F R w r)).map D.str) (.str "q")
  have pT:=plainsP (rts F R s)
  rw [← h,List.map_cons,loopM]
  simp only [rS,sI',oD',Option.map_some]
  generalize (F.filter fun w=>s.testBit (plc F R w r)).map D.str=HD at *
  generalize (rts F R s).map pD=T at *
  generalize F.map D.str=FD at *
  generalize R.map D.str=RD at *
  generalize ps.map pD=QD at *
  simp [b_law_right_0,B_law_right_0,g1,g2,g3,pB,l8,isLL,lF,lH,g4,pT,itemsD]
end
end My
namespace My
open PySem L2 M1
theorem f_right (a:Int) (r:List Int):f_law_right (a :: r) []=some (.sh (.bl true)):=by
 obtain ⟨F,R,ps,a1,r1,v,t1⟩:=f_parts a r
 have fr:=v.fr
 have f4:=v.f4
 have r6:=v.r6
 have g1:=f_office v
 have cm:cMulB (F.length:Int) (R.length:Int)=true:=cMul_l (by omega) (by omega)
 have e:(F.length:Int)*(R.length:Int)=((F.length*R.length:Nat):Int):=by simp
 have gb:=shl_pow (F.length*R.length) (by omega)
 have p12:(2 ^ (F.length*R.length):Nat)≤2 ^ 12:=Nat.pow_le_pow_right (by omega) fr
 have p0:0 < (2 ^ (F.length*R.length):Nat):=Nat.pos_of_ne_zero (by simp)
 obtain ⟨s,a2,r2,t2,hs⟩:=f_tk a1 r1 (b:=((2 ^ (F.length*R.length):Nat):Int)) (by omega) (cDiv_of (by omega) (by omega))
 have hs':s < 2 ^ (F.length*R.length):=by omega
 have g3:=f_lrights v s
 have g4:=f_lbits v
 have g5:=f_lstates v hs'
 have g6:=f_rights v hs'
 have okT:=rts_ok v s
 have n7:=ne_selfP okT
 have q7:=eq_selfP okT
 have lT:=rts_len v s
 obtain ⟨k,a3,r3,t3,hk⟩:=f_tk a2 r2 (b:=3) (by omega) (cDiv_of (by omega) (by omega))
 have cf:=cut_front ((rts F R s).map pD) k
 have tk:((rts F R s).map pD)++((rts F R s).map pD).take k=(rts F R s++(rts F R s).take k).map pD:=by simp
 have memb:∀ p,p∈rts F R s++(rts F R s).take k↔p∈rts F R s:=fun p=>by
  rw [List.mem_append]
  exact ⟨fun h=>h.elim id List.mem_of_mem_take,.inl⟩
 have ok2:∀ p∈rts F R s++(rts F R s).take k,OkP p:=fun p hp=>okT p ((memb p).mp hp)
 obtain ⟨hd,a4,r4,ph,t4⟩:=f_picked pD (rts F R s++(rts F R s).take k) (fun ys hy=>ne_prs fun z hz=>ok2 z (hy z hz)) (plainsP _) (by rw [List.length_append,List.length_take]; omega) a3 r3
 have hm:∀ p,p∈hd↔p∈rts F R s:=fun p=>(ph.mem_iff).trans (memb p)
 obtain ⟨g7,g8⟩:=f_stof v hs' hm
 have n9:=ne_selfP (zs:=hd) fun p hp=>okT p ((hm p).mp hp)
 have pH:=plainsP hd
 have pT:=plainsP (rts F R s)
 rw [← tk] at t4
 have lT':((rts F R s).map pD).length < sizeLine:=by rw [sl_big',List.length_map]; omega
 have lA:((rts F R s).map pD).length+(((rts F R s).map pD).take k).length≤sizeLine:=by rw [sl_big',List.length_take,List.length_map]; omega
 have lA':(((rts F R s).map pD)++((rts F R s).map pD).take k).length≤sizeLine:=by rw [List.length_append]; exact lA
 obtain ⟨y11,t8,h0⟩:=r0_loop v a4 r4 hs' (some (.sh (.int (F.length*R.length:Nat)))) (some (.li (hd.map pD))) (some (.li (hd.map pD))) R none (some (.li ((rts F R s).map pD++[.int 1]))) (fun _ h=>h) rfl
 have neI:oNe (.int (s:Int)) (.int (s:Int))=some (.bl false):=by rw [neI']; simp
 have pF:=plainsS F
 have pR:=plainsS R
 have pQ:=plainsP ps
 simp only [rS,tD,oD',Option.map_none,sI',oO,cOff] at t1 g1 t2 h0 g3 g4 g5 g6 g7 g8
 have lF:(F.map D.str).length=F.length:=by simp
 have lR:(R.map D.str).length=R.length:=by simp
 rw [← lF,← lR] at cm e
 have e2:((F.length*R.length:Nat):Int)=(((F.map D.str).length*(R.map D.str).length:Nat):Int):=by rw [lF,lR]
 generalize ((2 ^ (F.length*R.length):Nat):Int)=pw at gb t2
 rw [e2] at gb g5 h0
 generalize hd.map pD=HD at *
 generalize (rts F R s).map pD=T at *
 generalize F.map D.str=FD at t1 g1 lF h0 cm e gb g3 g4 g5 pF
 generalize R.map D.str=RD at t1 g1 lR h0 cm e gb g3 g4 g5 pR
 generalize ps.map pD=QD at t1 g1 h0 pQ
 have k1:=lk_ma (F:=F) (R:=R) (ps:=ps)
 have k2:=lk_mb (F:=F) (R:=R) (ps:=ps)
 generalize offF F R ps=off at g1 h0 g4 g5 g6 g7 g8 k1 k2
 rw [← e] at gb g5 h0
 generalize hnb:(FD.length:Int)*(RD.length:Int)=nb at gb g5 h0
 have run:m_law_right [some (.pu (a :: r)),none,none,none,none,none,none,none,none,none,none,none]=.rt (.sh (.bl true)):=by
  unfold m_law_right M_law_right
  refine seq_nx' (S1:=[some (.pu (a1 :: r1)),some (.sh (.lst FD)),some (.sh (.lst RD)),some (.sh (.lst QD)),none,none,none,none,none,none,none,none]) (by simp [t1]) ?_
  refine seq_nx' (S1:=[some (.pu (a1 :: r1)),some (.sh (.lst FD)),some (.sh (.lst RD)),some (.sh (.lst QD)),some (.sh (.ins 0 off)),none,none,none,none,none,none,none]) (by simp [g1]) ?_
  refine seq_nx' (S1:=[some (.pu (a1 :: r1)),some (.sh (.lst FD)),some (.sh (.lst RD)),some (.sh (.lst QD)),some (.sh (.ins 0 off)),some (.sh (.int nb)),none,none,none,none,none,none]) (by simp [cm,hnb]) ?_
  refine seq_nx' (S1:=[some (.pu (a2 :: r2)),some (.sh (.lst FD)),some (.sh (.lst RD)),some (.sh (.lst QD)),some (.sh (.ins 0 off)),some (.sh (.int nb)),some (.sh (.int s)),none,none,none,none,none]) (by simp [gb,t2]) ?_
  refine seq_nx' (S1:=[some (.pu (a2 :: r2)),some (.sh (.lst FD)),some (.sh (.lst RD)),some (.sh (.lst QD)),some (.sh (.ins 0 off)),some (.sh (.int nb)),some (.sh (.int s)),some (.li T),none,none,none,none]) (by simp [g3,pT]) ?_
  refine seq_nx' (S1:=[some (.pu (a2 :: r2)),some (.sh (.lst FD)),some (.sh (.lst RD)),some (.sh (.lst QD)),some (.sh (.ins 0 off)),some (.sh (.int nb)),some (.sh (.int s)),some (.li T),none,none,none,none]) (by simp [g4,g5]) ?_
  refine seq_nx' (S1:=[some (.pu (a2 :: r2)),some (.sh (.lst FD)),some (.sh (.lst RD)),some (.sh (.lst QD)),some (.sh (.ins 0 off)),some (.sh (.int nb)),some (.sh (.int s)),some (.li T),some (.li T),none,none,none]) (by simp [g6,pT,k1]) ?_
  refine seq_nx' (S1:=[some (.pu (a2 :: r2)),some (.sh (.lst FD)),some (.sh (.lst RD)),some (.sh (.lst QD)),some (.sh (.ins 0 off)),some (.sh (.int nb)),some (.sh (.int s)),some (.li T),some (.li T),none,none,none]) (by simp [isLL,n7]) ?_
  refine seq_nx' (S1:=[some (.pu (a2 :: r2)),some (.sh (.lst FD)),some (.sh (.lst RD)),some (.sh (.lst QD)),some (.sh (.ins 0 off)),some (.sh (.int nb)),some (.sh (.int s)),some (.li T),some (.li (T++[.int 1])),none,none,none]) (by simp [lT']) ?_
  refine seq_nx' (S1:=[some (.pu (a4 :: r4)),some (.sh (.lst FD)),some (.sh (.lst RD)),some (.sh (.lst QD)),some (.sh (.ins 0 off)),some (.sh (.int nb)),some (.sh (.int s)),some (.li T),some (.li (T++[.int 1])),some (.li HD),none,none]) (by rw [List.length_take] at lA; simp [t3,cf,lA,t4,pH,pT]) ?_
  refine seq_nx' (S1:=[some (.pu (a4 :: r4)),some (.sh (.lst FD)),some (.sh (.lst RD)),some (.sh (.lst QD)),some (.sh (.ins 0 off)),some (.sh (.int nb)),some (.sh (.int s)),some (.li T),some (.li (T++[.int 1])),some (.li HD),some (.li HD),none]) (by simp [pH]) ?_
  refine seq_nx' (S1:=[some (.pu (a4 :: r4)),some (.sh (.lst FD)),some (.sh (.lst RD)),some (.sh (.lst QD)),some (.sh (.ins 0 off)),some (.sh (.int nb)),some (.sh (.int s)),some (.li T),some (.li (T++[.int 1])),some (.li HD),some (.li HD),none]) (by simp [g7,g8,neI,n9,pH,k2]) ?_
  refine seq_nx' (S1:=_) (by simp only [mForV,List.getElem?_cons_zero,List.getElem?_cons_succ,itemsD]; exact h0) ?_
  simp [g6,q7,k1]
 simp only [f_law_right,runT,List.length_nil,Nat.zero_add,if_true,List.map_nil,List.nil_append]
 rw [show (List.replicate (12-1) none:FSt)=[none,none,none,none,none,none,none,none,none,none,none] from rfl,run]
end My
namespace My
open PySem L2 M1
theorem rich_loop (c:Int):∀ (ks:List Nat) (num found:Int) (x3:Option D),0≤num→num < 2147483629→(∀ k∈ks,k < 100)→∃ (num' found':Int) (y3:Option D),
  loopM (gN 3) b_law_rich_0 (ks.map nD) [sI' c,sI' num,sI' found,oD' x3]=.nx [sI' c,sI' num',sI' found',oD' y3]
 | [],num,found,x3,_,_,_=>⟨num,found,x3,rfl⟩
 | k :: ks,num,found,x3,h0,h1,hk=>by
  have hk':=hk k (by simp)
  obtain ⟨n,en,hn⟩:=mod_nat (num*num+48271*num+7919*(k:Int)+5) (b:=2147483629) (by omega)
  have m1:cMulB num num=true:=cMul_l (by omega) (by omega)
  have m2:cMulB 48271 num=true:=cMul_l (by omega) (by omega)
  have m3:cMulB 7919 (k:Int)=true:=cMul_l (by omega) (by omega)
  have m4:cMulB found 2147483587=true:=cMul_r (by omega) (by omega)
  have m5:cMulB ((n:Int)+11) ((n:Int)+11)=true:=cMul_l (by omega) (by omega)
  obtain ⟨q,eq,hq⟩:=mod_nat (((n:Int)+11)*((n:Int)+11)) (b:=2147483587) (by omega)
  obtain ⟨n',f',y3,h⟩:=rich_loop c ks n (found*2147483587+q) (some (.int k)) (by omega) (by omega) (fun z hz=>hk z (by simp [hz]))
  refine ⟨n',f',y3,?_⟩
  rw [← h,List.map_cons,loopM]
  simp only [sI',oD',Option.map_some]
  simp [b_law_rich_0,m1,m2,m3,m4,m5,en,eq]
theorem f_rich (c:Int):∃ n:Int,f_law_rich [.int c]=some (.sh (.int n)):=by
 obtain ⟨v,ev,hv⟩:=mod_nat c (b:=2147483629) (by omega)
 obtain ⟨n',f',y3,h⟩:=rich_loop c (List.range 8) v 0 none (by omega) (by omega) (fun k hk=>by have:=List.mem_range.mp hk; omega)
 have hr:=rng0 8 (by omega)
 have e8:(((8:Nat):Int))=8:=rfl
 rw [e8] at hr
 refine ⟨f',?_⟩
 generalize (List.range 8).map nD=its at h hr
 simp only [sI',oD',Option.map_none] at h
 simp [f_law_rich,runF,m_law_rich,M_law_rich,ev,hr,h]
theorem f_purse (ns:List Int) (hl:ns.length≤63) (k:Nat):∃ (a:Int) (r:List Int),f_law_purse [.fz (ns.map D.int),.int k]=some (.li ((a :: r).map D.int)):=by
 have e2:(2:Nat)≤sizeLine:=by rw [sl_big']; omega
 have e1:(1:Nat)≤sizeLine:=by rw [sl_big']; omega
 have lN:(ns.map D.int).length=ns.length:=by simp
 have fin:∀ c:Int,∃ (a:Int) (r:List Int),((c%2==0)=true∧∃ n,f_law_rich [.int c]=some (.sh (.int n))∧a=c / 2∧r=[n])∨((c%2==0)=false∧f_law_rich [.int c]=some (.sh (.int a))∧r=[]):=fun c=>by
  obtain ⟨n,hn⟩:=f_rich c
  cases q:(c%2==0)
  ·exact ⟨n,[],.inr ⟨rfl,hn,rfl⟩⟩
  ·exact ⟨c / 2,[n],.inl ⟨rfl,n,hn,rfl,rfl⟩⟩
 by_cases hk:k < ns.length
 ·obtain ⟨a,r,h⟩:=fin ns[k]
  have hx:oIx (.fz (ns.map D.int)) (.int k)=some (.int ns[k]):=by
   have:=atN (xs:=ns.map D.int) (k:=k) (x:=D.int ns[k]) (by rw [List.getElem?_map,List.getElem?_eq_getElem hk]; rfl)
   simp only [oIx]; exact this
  have ck:(k:Int) < ((ns.map D.int).length:Int):=by rw [lN]; omega
  refine ⟨a,r,?_⟩
  generalize ns[k]=c at h hx
  generalize ns.map D.int=nd at hx ck
  rcases h with ⟨q,n,hn,rfl,rfl⟩ | ⟨q,hn,rfl⟩
  ·simp [f_law_purse,runF,m_law_purse,M_law_purse,ck,hx,eqI',q,hn,e2,c2b,-oIx]
  ·simp [f_law_purse,runF,m_law_purse,M_law_purse,ck,hx,eqI',q,hn,e1,-oIx]
 ·obtain ⟨a,r,h⟩:=fin 0
  have ck:¬ ((k:Int) < ((ns.map D.int).length:Int)):=by rw [lN]; omega
  refine ⟨a,r,?_⟩
  generalize ns.map D.int=nd at ck
  rcases h with ⟨q,n,hn,rfl,rfl⟩ | ⟨q,hn,rfl⟩
  ·simp [f_law_purse,runF,m_law_purse,M_law_purse,ck,eqI',hn,e2,c2b,-oIx]
  ·cases q
theorem asInts_ints (ns:List Int):asInts (ns.map D.int)=some ns:=by
 induction ns with
 | nil=>rfl
 | cons n ns ih=>simp [ih]
theorem law_loop (ns:List Int) (hl:ns.length≤63):∀ (ks:List Nat) (x1:Option D),∃ y1,loopM (gN 1) b_law_0 (ks.map nD) [some (.sh (.fz (ns.map D.int))),oD' x1]=.nx [some (.sh (.fz (ns.map D.int))),oD' y1]
 | [],x1=>⟨x1,rfl⟩
 | k :: ks,x1=>by
  obtain ⟨a,r,h1⟩:=f_purse ns hl k
  have h2:=f_right a r
  have h3:=asInts_ints (a :: r)
  obtain ⟨y1,h⟩:=law_loop ns hl ks (some (.int k))
  refine ⟨y1,?_⟩
  rw [← h,List.map_cons,loopM]
  generalize (a :: r).map D.int=pd at h1 h3
  simp [b_law_0,B_law_0,h1,h3,h2]
theorem law_true (ns:List Int) (hl:ns.length≤63):f_law [.fz (ns.map D.int)]=some (.sh (.bl true)):=by
 obtain ⟨m,hm,m1⟩:∃ m:Nat,(if (1:Int) < (if (20:Int) < (ns.length:Int) then 20 else (ns.length:Int)) then (if (20:Int) < (ns.length:Int) then 20 else (ns.length:Int)) else 1)=(m:Int)∧m≤20:=⟨max 1 (min ns.length 20),by split <;> split <;> omega,by omega⟩
 have hr:=rng0 m (by omega)
 obtain ⟨y1,h⟩:=law_loop ns hl (List.range m) none
 have lN:(ns.map D.int).length=ns.length:=by simp
 generalize (List.range m).map nD=its at h hr
 simp only [oD',Option.map_none] at h
 rw [← lN] at hm
 generalize ns.map D.int=nd at h hm
 simp [f_law,runF,m_law,M_law,hm,hr,h]
end My
namespace PySem.W.Fast
def tw10020401515699178379:=()
def tw10025218377006833338:=()
def tw10034049130977920884:=()
def tw1008009152267758188:=()
def tw10084731985684169732:=()
def tw10090775585675860588:=()
def tw10138406845517856670:=()
def tw10154778650555899369:=()
def tw10236436253653137703:=()
def tw10455625107659114536:=()
def tw10474453789977565015:=()
def tw10485994857986184492:=()
def tw10494963639994856340:=()
def tw10495116458516328716:=()
def tw10529804203531206944:=()
def tw10544969172543771663:=()
def tw10608298039463311388:=()
def tw10646241303000784157:=()
def tw10671134880287254632:=()
def tw10673918543505700832:=()
def tw10731248446282062213:=()
def tw10743101927131761749:=()
def tw10765754087324746841:=()
def tw107845571177336692:=()
def tw10789539072502355236:=()
def tw10835321284538946661:=()
def tw10896463173580831428:=()
def tw10929441732969955974:=()
def tw10957085847610900643:=()
def tw10961395677222607572:=()
def tw11015464619927665768:=()
def tw11025174029333587406:=()
def tw11049020500775241353:=()
def tw11071156507491164605:=()
def tw11095946723970032799:=()
def tw1123231591340638089:=()
def tw11262672708121718710:=()
def tw11281807574655231940:=()
def tw11296082041856749002:=()
def tw11299113594616137908:=()
def tw1144492640118715451:=()
def tw11448439978197150816:=()
def tw11482053795425587722:=()
def tw11521745059215513587:=()
def tw11525959510879076947:=()
def tw11585688694040492526:=()
def tw11666219786594595541:=()
def tw11746257370166615477:=()
def tw1175998728368987407:=()
def tw1177817702881206467:=()
def tw11788833192767016561:=()
def tw1179787564281259049:=()
def tw11817287299671705772:=()
def tw11833650681094526531:=()
def tw11841302392241217126:=()
def tw11854379328376020053:=()
def tw11862802429216437621:=()
def tw11862893600034143667:=()
def tw11866812500793609070:=()
def tw11897639775840776878:=()
def tw11920680524241966445:=()
def tw11938551634163265372:=()
def tw11948346854015202219:=()
def tw12031595737166007653:=()
def tw12036938414731849583:=()
def tw12110551050869108774:=()
def tw1211560087263557750:=()
def tw12133411012989956655:=()
def tw12218184074461065481:=()
def tw12284293274239682335:=()
def tw12307762626922836729:=()
def tw12314091704275473097:=()
def tw1236318851652736525:=()
def tw1238780382940994657:=()
def tw12526115103995691379:=()
def tw12561000045195734395:=()
def tw12655997137617011727:=()
def tw12661870220832256541:=()
def tw12664653553206403286:=()
def tw12753373780985789514:=()
def tw12756158974216802499:=()
def tw12779922377547947433:=()
def tw12785354615545585538:=()
def tw12802795001652044499:=()
def tw12877879696436724974:=()
def tw12890817879795702488:=()
def tw12921706494792826731:=()
def tw12939220525447125234:=()
def tw1310989316859608186:=()
def tw13115407886559287068:=()
def tw13154921239262629584:=()
def tw13160610372778940952:=()
def tw13225180166232614839:=()
def tw13355483763992659648:=()
def tw1337203554297075209:=()
def tw13424667714146857477:=()
def tw13492310982264296066:=()
def tw13502714507796921231:=()
def tw13518046370278235349:=()
def tw13546641135692693246:=()
def tw1359983881339046842:=()
def tw13601285958897289694:=()
def tw13643903405997631730:=()
def tw13655112747053328436:=()
def tw13665432721639604197:=()
def tw13700004074353521989:=()
def tw13708904241013899296:=()
def tw13746202978936099675:=()
def tw13761964481153699513:=()
def tw13787819301239294644:=()
def tw13821818995873771972:=()
def tw13880711432859187507:=()
def tw13883311082934714854:=()
def tw13914464557318773279:=()
def tw1394412089543776045:=()
def tw14013499321160004720:=()
def tw14014725781926161200:=()
def tw14029360541098746257:=()
def tw14039576006357953990:=()
def tw14153924625055442841:=()
def tw14168057765863165943:=()
def tw14183408728525143013:=()
def tw14234873962688626390:=()
def tw14274347160505137530:=()
def tw14337145240906320432:=()
def tw14379784824520745408:=()
def tw14385270696086575983:=()
def tw143944119478217653:=()
def tw14410147363303141280:=()
def tw1441385257643212249:=()
def tw14473748588024707348:=()
def tw14498744834841548585:=()
def tw14645039668565217437:=()
def tw14648326400043016431:=()
def tw14702481010002045920:=()
def tw14740236529087745152:=()
def tw14746769929459682280:=()
def tw14797049472846522919:=()
def tw14840030677607717991:=()
def tw14866984947033934083:=()
def tw14872583971979955246:=()
def tw14881181974320857040:=()
def tw14909808487930951273:=()
def tw14922804942010755527:=()
def tw14963135464027696977:=()
def tw1497160868154943484:=()
def tw14997080611904214931:=()
def tw15028896390659929749:=()
def tw1504400508893743767:=()
def tw15052623528398712537:=()
def tw15061032613918266395:=()
def tw15149286423588601109:=()
def tw15202484512506948761:=()
def tw15245780538057782242:=()
def tw15257692674796430200:=()
def tw15336280237410103375:=()
def tw15336912374387726821:=()
def tw15371489831664560467:=()
def tw15394959709373246184:=()
def tw15492710793157801493:=()
def tw154966880219873447:=()
def tw15511767710617090354:=()
def tw15642862671021917359:=()
def tw15936228022522071485:=()
def tw15945772614766980157:=()
def tw16011142218729061913:=()
def tw16095701055364727595:=()
def tw16151288445917529664:=()
def tw16197261914919014593:=()
def tw16201281165475286055:=()
def tw16213713798523729620:=()
def tw16431080045338745342:=()
def tw1643916661087525870:=()
def tw16520457734196913329:=()
def tw16551182198378460983:=()
def tw1655501277714456376:=()
def tw16558468275872414080:=()
def tw1657127289608790152:=()
def tw1668078424345351795:=()
def tw16698598469960874113:=()
def tw16705991791744645776:=()
def tw16756405565553277237:=()
def tw16783674538274977699:=()
def tw16795782848232366482:=()
def tw16842949139820998746:=()
def tw16917771419257538792:=()
def tw16961854084603750539:=()
def tw16983415233535363953:=()
def tw17112760080758255685:=()
def tw17158611375418879045:=()
def tw17188990636071182073:=()
def tw17213367765044794392:=()
def tw17223831965553643191:=()
def tw17277196320819899459:=()
def tw17279528176936765084:=()
def tw17284809256887291952:=()
def tw17286877639189442642:=()
def tw17304418438145039633:=()
def tw17344990550127232550:=()
def tw17510065751262451854:=()
def tw1753894181163404752:=()
def tw17581477381925215229:=()
def tw17583325127576365193:=()
def tw17583615650871764265:=()
def tw17605589471174870761:=()
def tw17626044121095691310:=()
def tw17646534513731881264:=()
def tw1770956822888262408:=()
def tw17786580086560036141:=()
def tw17870092787816384750:=()
def tw17879274193769876979:=()
def tw17879896001939552097:=()
def tw17884416776168651505:=()
def tw18000930102094766839:=()
def tw18047835918063570402:=()
def tw18090229092959343807:=()
def tw18174644107402117576:=()
def tw18180827157541144429:=()
def tw18217336852155390031:=()
def tw18276660040922239518:=()
def tw18277684923641315213:=()
def tw18310032477939212914:=()
def tw18310261568402033542:=()
def tw18318919326287631522:=()
def tw18381163096370203997:=()
def tw1839770289165181710:=()
def tw18425368631342538551:=()
def tw18433988212377661723:=()
def tw18436487135652596350:=()
def tw18437893351955299764:=()
def tw1910795401811937112:=()
def tw197573062351040976:=()
def tw198134767350952547:=()
def tw1986206462779801364:=()
def tw1988391707189246498:=()
def tw1995726314235971482:=()
def tw207731280374144651:=()
def tw2152697252777334236:=()
def tw2180574355177959230:=()
def tw2244541759537118923:=()
def tw2267057512982378122:=()
def tw2290156691061831631:=()
def tw233669920107566585:=()
def tw2360017633174274028:=()
def tw2373243398605151420:=()
def tw2388839727735548603:=()
def tw2482775994437525784:=()
def tw2489221741193772108:=()
def tw2498812211821527123:=()
def tw2527650681175195912:=()
def tw2557670281917569728:=()
def tw2613055388724050765:=()
def tw2617779655851209265:=()
def tw2621482947577981728:=()
def tw267118730618825006:=()
def tw2699799485231141651:=()
def tw2713160956487014960:=()
def tw2730182261453944710:=()
def tw2822406466026299114:=()
def tw2864297091730392130:=()
def tw2870726668983272495:=()
def tw2873386112083063221:=()
def tw2873957252689497552:=()
def tw2927302862797461299:=()
def tw2933181843055247366:=()
def tw293516820738141057:=()
def tw3115267003208743465:=()
def tw3129425303796163527:=()
def tw3186309892258592825:=()
def tw3190979149017383563:=()
def tw3212361053287128139:=()
def tw3252679214850487605:=()
def tw3302500212884724480:=()
def tw3362273829079520474:=()
def tw3448190748157967868:=()
def tw3466547123476160328:=()
def tw3478230636126255616:=()
def tw3512997974404572719:=()
def tw355243836339700381:=()
def tw3611053807122672926:=()
def tw3644581936268766459:=()
def tw3732465747956453563:=()
def tw3754982359665895604:=()
def tw3793022382192133235:=()
def tw3863499719146029892:=()
def tw3988724047401610646:=()
def tw4101385752848232033:=()
def tw4102813252730359326:=()
def tw4138750530126348023:=()
def tw4199027321567865398:=()
def tw4227522106178575362:=()
def tw4234125717336132702:=()
def tw4307352127439982190:=()
def tw4323897177868629234:=()
def tw4410456925697432066:=()
def tw4418518964557671077:=()
def tw4495686400825601216:=()
def tw4552541757481693556:=()
def tw4558772138034447015:=()
def tw4567422527726424141:=()
def tw4567617833324970541:=()
def tw457842437134485493:=()
def tw4768145061360044421:=()
def tw4850382464634161925:=()
def tw4881588271543455160:=()
def tw49084749111282195:=()
def tw4909081993347471862:=()
def tw4943831432726100187:=()
def tw5011168008028805098:=()
def tw5232926222517316908:=()
def tw5237332990515934899:=()
def tw5407914752951512353:=()
def tw5410114021937386944:=()
def tw5526781646276118826:=()
def tw5531237329541780370:=()
def tw5541199072636787979:=()
def tw5558231243550669251:=()
def tw5594312145707055833:=()
def tw5602883415316877252:=()
def tw5604256568138341609:=()
def tw5631027507195463253:=()
def tw5695403379041711713:=()
def tw5729288606088586961:=()
def tw5745247553448161588:=()
def tw5790406188227041852:=()
def tw5844607430926885672:=()
def tw5858925650154976800:=()
def tw5873016528195256433:=()
def tw5997158617468431844:=()
def tw6004473585426147608:=()
def tw605640593401834377:=()
def tw6098676417879053914:=()
def tw6111555169371457053:=()
def tw6149665565999523598:=()
def tw6180077019964472866:=()
def tw6187167914467566510:=()
def tw6202914893548436221:=()
def tw6214570558745177106:=()
def tw6270300638041619903:=()
def tw6316229813690443542:=()
def tw6335191547052430747:=()
def tw6344761603554854453:=()
def tw6351894457347222501:=()
def tw6369557040517217352:=()
def tw6390236652657564187:=()
def tw6449045347448287064:=()
def tw6457000051825857258:=()
def tw6458229828143054200:=()
def tw6470355674943230370:=()
def tw6489070585352404850:=()
def tw6547594521987624344:=()
def tw6609505744461586313:=()
def tw6618907431510353633:=()
def tw664069832183696404:=()
def tw665405082285448229:=()
def tw6659173938614292109:=()
def tw6744597515457391240:=()
def tw6774377242800234931:=()
def tw6806764216304630471:=()
def tw6868120566710965825:=()
def tw6888068801752145900:=()
def tw689682784193662382:=()
def tw6915775684234816724:=()
def tw693568210283511335:=()
def tw7003261010483092857:=()
def tw7046545349882438441:=()
def tw7055863179116227190:=()
def tw7060229602529090343:=()
def tw7136591664908046547:=()
def tw714728964496072400:=()
def tw7203900476140925659:=()
def tw721016755912498401:=()
def tw7303367361088058789:=()
def tw7340305417421101230:=()
def tw7361434728345541927:=()
def tw7382429327040772384:=()
def tw7475211219481086719:=()
def tw7499192385023182903:=()
def tw7554238585071587072:=()
def tw7606153073686206848:=()
def tw7629800906077332857:=()
def tw7685026130286685553:=()
def tw7800264908027669019:=()
def tw7881180218752436024:=()
def tw7884839976370715040:=()
def tw7893172159962558517:=()
def tw7972657416330054296:=()
def tw799480528558902128:=()
def tw8020958244243097592:=()
def tw8029570630297554250:=()
def tw8063064834416892430:=()
def tw8090746400955129789:=()
def tw8096179337856683714:=()
def tw8133611722703708770:=()
def tw8259504874895457321:=()
def tw8340005891577733717:=()
def tw8353058924323344483:=()
def tw8391661086195322841:=()
def tw8407691222970744478:=()
def tw8410654720103283681:=()
def tw8500647582948678185:=()
def tw8538221984197619616:=()
def tw8539025018784462857:=()
def tw8545359979133420224:=()
def tw8641044303125518388:=()
def tw8672420789570995558:=()
def tw8760823284887819489:=()
def tw8814043584696622740:=()
def tw8814613889142716108:=()
def tw8853639188685261078:=()
def tw896814874702189620:=()
def tw8990047291457399715:=()
def tw8991485492456273193:=()
def tw9000315608998903233:=()
def tw9019288343420820945:=()
def tw903678909302872032:=()
def tw9036887966294014870:=()
def tw9038528268637072149:=()
def tw9040610312837548343:=()
def tw9041985345487752812:=()
def tw9054974509457451590:=()
def tw9065639811355716543:=()
def tw9076861133990788665:=()
def tw9086205257743711546:=()
def tw9126243744181869192:=()
def tw9128351105937385553:=()
def tw9164896301955161325:=()
def tw9200512320291958658:=()
def tw9216947098324931863:=()
def tw9233245133300324203:=()
def tw9258974583869800271:=()
def tw9288352325249966068:=()
def tw9330518181395715232:=()
def tw9344459331525688941:=()
def tw9344803175377980862:=()
def tw9408397132576866207:=()
def tw9423476182123957927:=()
def tw9430223666026932206:=()
def tw9568579953643542185:=()
def tw965283895658180229:=()
def tw9666835973649892065:=()
def tw9675529307797698306:=()
def tw970670620427192897:=()
def tw9748026197495518240:=()
def tw9778440645030259445:=()
def tw9794020668391087510:=()
def tw9921551926104614498:=()
def tw9932253779048619495:=()
def tw9983489232819159149:=()
def tw9997312111408770456:=()
end PySem.W.Fast
namespace My
open PySem L2
def Fx (K:W.Frag) (x q:Str) (s:Stmt) (f:Addr):Prop:=∃ fd,Fun K x q s f fd
theorem fx_mk {K:W.Frag} {x q:Str} {st:Stmt} {f:Addr} {oc:Value} {od an:Option Addr} {osl:Array (Option Value)} {kV doc pm cdv ct:Value} (l:K.lookup f=some ⟨oc,od,.func (W.fnOf x q (defArgs st) (defBody st) (defScope st) .none kV doc pm an cdv ct),osl⟩:=by k_is) (c:W.codeIn K cdv q=true:=by k_is) (k:W.keepIn K (.ref f)=true:=by k_is):Fx K x q st f:=⟨_,fun_mk l c k⟩
section
variable {P:Program} {w:World} {K:W.Frag} {mg:Str→Option Value} {base:Heap} {A:Adr}
theorem ok_law' (T:Txt K mg A):FnOk P w K mg base CX0 6 A.f_law A.d_law ["_law_script"] (sp_law K):=(ok_law T).imp (sp_law_of (B:=bk K A) rfl law_true)
end
theorem all_mk {l:W.OpenLaw} {w:World} {K:W.Frag} {h:Heap} {mg:Str→Option Value} {fa:Addr} (X:K.In h) (G:h.Ns mainGlobals mg) (hfa:mg "law"=some (.ref fa))
  {C_Office:Addr}
  {f0:Addr}
  {f1:Addr}
  {f2:Addr}
  {f3:Addr}
  {f4:Addr}
  {f5:Addr}
  {f6:Addr}
  {f7:Addr}
  {f8:Addr}
  {f9:Addr}
  {f10:Addr}
  {f11:Addr}
  {f12:Addr}
  {f13:Addr}
  {f14:Addr}
  {f15:Addr}
  {f16:Addr}
  {f17:Addr}
  {f18:Addr}
  {f19:Addr}
  {f20:Addr}
  {f21:Addr}
  {f22:Addr}
  {f23:Addr}
  {f24:Addr}
  {f25:Addr}
  {f26:Addr}
  {f27:Addr}
  {f28:Addr}
  {tk0:Tok}
  {tk1:Tok}
  {tk2:Tok}
  {tk3:Tok}
  {tk4:Tok}
  {tk5:Tok}
  (aC_Office:W.nsIn K mainGlobals "Office"=some (some (.ref C_Office)))
  (pg_Office:W.plainGet K C_Office Str.empty=true)
  (hd_Office:W.hasDictIn K C_Office=true)
  (po_Office:W.plainOver K C_Office=true)
  (sa_Office:W.findIn K (.ref C_Office) "__setattr__"=some (some (.builtin "object.__setattr__")))
  (mk_Office:W.makesIn K C_Office=true)
  (kc_Office:W.keepIn K (.ref C_Office)=true)
  (na_Office_folk:W.findIn K (.ref C_Office) "folk"=some none)
  (na_Office_roles:W.findIn K (.ref C_Office) "roles"=some none)
  (na_Office_pairs:W.findIn K (.ref C_Office) "pairs"=some none)
  (na_Office_right_bits:W.findIn K (.ref C_Office) "right_bits"=some none)
  (na_Office_bringers:W.findIn K (.ref C_Office) "bringers"=some none)
  (a0:W.nsIn K mainGlobals "_law_take"=some (some (.ref f0)))
  (F0:Fx K "_law_take" "_law_take" s_law_take f0)
  (a1:W.nsIn K mainGlobals "_law_names"=some (some (.ref f1)))
  (F1:Fx K "_law_names" "_law_names" s_law_names f1)
  (a2:W.nsIn K mainGlobals "_law_picked"=some (some (.ref f2)))
  (F2:Fx K "_law_picked" "_law_picked" s_law_picked f2)
  (a3:W.nsIn K mainGlobals "_law_parts"=some (some (.ref f3)))
  (F3:Fx K "_law_parts" "_law_parts" s_law_parts f3)
  (a4:W.nsIn K mainGlobals "is_name"=some (some (.ref f4)))
  (F4:Fx K "is_name" "is_name" s_is_name f4)
  (a5:W.nsIn K mainGlobals "checked_names"=some (some (.ref f5)))
  (F5:Fx K "checked_names" "checked_names" s_checked_names f5)
  (a6:W.nsIn K mainGlobals "is_among"=some (some (.ref f6)))
  (F6:Fx K "is_among" "is_among" s_is_among f6)
  (a7:W.nsIn K mainGlobals "bringing_by"=some (some (.ref f7)))
  (F7:Fx K "bringing_by" "bringing_by" s_bringing_by f7)
  (a8:W.nsIn K mainGlobals "checked_pairs"=some (some (.ref f8)))
  (F8:Fx K "checked_pairs" "checked_pairs" s_checked_pairs f8)
  (a9:W.nsIn K mainGlobals "bits_of_rights"=some (some (.ref f9)))
  (F9:Fx K "bits_of_rights" "bits_of_rights" s_bits_of_rights f9)
  (a10:W.nsIn K mainGlobals "bringers_of_roles"=some (some (.ref f10)))
  (F10:Fx K "bringers_of_roles" "bringers_of_roles" s_bringers_of_roles f10)
  (a11_Office:W.findIn K (.ref C_Office) "__init__"=some (some (.ref f11)))
  (i11:W.isFn K (.ref f11)=true)
  (F11:Fx K "__init__" "Office.__init__" s_Office__init_ f11)
  (a12:W.nsIn K mainGlobals "_law_rights"=some (some (.ref f12)))
  (F12:Fx K "_law_rights" "_law_rights" s_law_rights f12)
  (a13:W.nsIn K mainGlobals "is_whole"=some (some (.ref f13)))
  (F13:Fx K "is_whole" "is_whole" s_is_whole f13)
  (a14_Office:W.findIn K (.ref C_Office) "bits"=some (some (.ref f14)))
  (i14:W.isFn K (.ref f14)=true)
  (F14:Fx K "bits" "Office.bits" s_Office_bits f14)
  (a15_Office:W.findIn K (.ref C_Office) "is_state"=some (some (.ref f15)))
  (i15:W.isFn K (.ref f15)=true)
  (F15:Fx K "is_state" "Office.is_state" s_Office_is_state f15)
  (a16_Office:W.findIn K (.ref C_Office) "must_be_state"=some (some (.ref f16)))
  (i16:W.isFn K (.ref f16)=true)
  (F16:Fx K "must_be_state" "Office.must_be_state" s_Office_must_be_state f16)
  (a17_Office:W.findIn K (.ref C_Office) "rights"=some (some (.ref f17)))
  (i17:W.isFn K (.ref f17)=true)
  (F17:Fx K "rights" "Office.rights" s_Office_rights f17)
  (a18_Office:W.findIn K (.ref C_Office) "must_be_role"=some (some (.ref f18)))
  (i18:W.isFn K (.ref f18)=true)
  (F18:Fx K "must_be_role" "Office.must_be_role" s_Office_must_be_role f18)
  (a19_Office:W.findIn K (.ref C_Office) "holders"=some (some (.ref f19)))
  (i19:W.isFn K (.ref f19)=true)
  (F19:Fx K "holders" "Office.holders" s_Office_holders f19)
  (a20_Office:W.findIn K (.ref C_Office) "must_be_folk"=some (some (.ref f20)))
  (i20:W.isFn K (.ref f20)=true)
  (F20:Fx K "must_be_folk" "Office.must_be_folk" s_Office_must_be_folk f20)
  (a21_Office:W.findIn K (.ref C_Office) "bit"=some (some (.ref f21)))
  (i21:W.isFn K (.ref f21)=true)
  (F21:Fx K "bit" "Office.bit" s_Office_bit f21)
  (a22:W.nsIn K mainGlobals "_law_bits"=some (some (.ref f22)))
  (F22:Fx K "_law_bits" "_law_bits" s_law_bits f22)
  (a23:W.nsIn K mainGlobals "_law_states"=some (some (.ref f23)))
  (F23:Fx K "_law_states" "_law_states" s_law_states f23)
  (a24_Office:W.findIn K (.ref C_Office) "state_of"=some (some (.ref f24)))
  (i24:W.isFn K (.ref f24)=true)
  (F24:Fx K "state_of" "Office.state_of" s_Office_state_of f24)
  (a25:W.nsIn K mainGlobals "_law_right"=some (some (.ref f25)))
  (F25:Fx K "_law_right" "_law_right" s_law_right f25)
  (a26:W.nsIn K mainGlobals "_law_rich"=some (some (.ref f26)))
  (F26:Fx K "_law_rich" "_law_rich" s_law_rich f26)
  (a27:W.nsIn K mainGlobals "_law_purse"=some (some (.ref f27)))
  (F27:Fx K "_law_purse" "_law_purse" s_law_purse f27)
  (a28:W.nsIn K mainGlobals "law"=some (some (.ref f28)))
  (F28:Fx K "law" "law" s_law f28)
  (hn:W.specialIn K (.builtin "object.__class__") "__get__"=some (some (.builtin "getset_descriptor.__get__")))
  (htk:W.takesIn K (.builtin "object.__class__")=some true)
  (z_all:W.nsIn K mainGlobals "all"=some none)
  (z_bool:W.nsIn K mainGlobals "bool"=some none)
  (z_enumerate:W.nsIn K mainGlobals "enumerate"=some none)
  (z_int:W.nsIn K mainGlobals "int"=some none)
  (z_isinstance:W.nsIn K mainGlobals "isinstance"=some none)
  (z_len:W.nsIn K mainGlobals "len"=some none)
  (z_list:W.nsIn K mainGlobals "list"=some none)
  (z_max:W.nsIn K mainGlobals "max"=some none)
  (z_min:W.nsIn K mainGlobals "min"=some none)
  (z_range:W.nsIn K mainGlobals "range"=some none)
  (z_str:W.nsIn K mainGlobals "str"=some none)
  (z_tuple:W.nsIn K mainGlobals "tuple"=some none)
  (q_LETTERS:W.nsIn K mainGlobals "LETTERS"=some (some (.str "abcdefghijklmnopqrstuvwxyz" tk0)))
  (q_LONGEST_NAME:W.nsIn K mainGlobals "LONGEST_NAME"=some (some (.int 6 tk1)))
  (q_MOST_BITS:W.nsIn K mainGlobals "MOST_BITS"=some (some (.int 12 tk2)))
  (q_MOST_FOLK:W.nsIn K mainGlobals "MOST_FOLK"=some (some (.int 4 tk3)))
  (q_MOST_PAIRS:W.nsIn K mainGlobals "MOST_PAIRS"=some (some (.int 15 tk4)))
  (q_MOST_ROLES:W.nsIn K mainGlobals "MOST_ROLES"=some (some (.int 6 tk5))) :
  ∃ fd:FuncData,(∀ (s:Shared) (v:Value),BindsTo s fd ⟨[v],[]⟩ [("_law_script",v)])∧∀ base:Heap,K.In base→base.Ns mainGlobals mg→FnOk l.prog w K mg base CX0 6 fa fd ["_law_script"] (sp_law K):=by
 have e:=hfa.symm.trans (W.mg_of X G a28)
 have e2:f28=fa:=by
  injection e with e
  injection e with e
  exact e.symm
 subst e2
 obtain ⟨d0,F0⟩:=F0
 obtain ⟨d1,F1⟩:=F1
 obtain ⟨d2,F2⟩:=F2
 obtain ⟨d3,F3⟩:=F3
 obtain ⟨d4,F4⟩:=F4
 obtain ⟨d5,F5⟩:=F5
 obtain ⟨d6,F6⟩:=F6
 obtain ⟨d7,F7⟩:=F7
 obtain ⟨d8,F8⟩:=F8
 obtain ⟨d9,F9⟩:=F9
 obtain ⟨d10,F10⟩:=F10
 obtain ⟨d11,F11⟩:=F11
 obtain ⟨d12,F12⟩:=F12
 obtain ⟨d13,F13⟩:=F13
 obtain ⟨d14,F14⟩:=F14
 obtain ⟨d15,F15⟩:=F15
 obtain ⟨d16,F16⟩:=F16
 obtain ⟨d17,F17⟩:=F17
 obtain ⟨d18,F18⟩:=F18
 obtain ⟨d19,F19⟩:=F19
 obtain ⟨d20,F20⟩:=F20
 obtain ⟨d21,F21⟩:=F21
 obtain ⟨d22,F22⟩:=F22
 obtain ⟨d23,F23⟩:=F23
 obtain ⟨d24,F24⟩:=F24
 obtain ⟨d25,F25⟩:=F25
 obtain ⟨d26,F26⟩:=F26
 obtain ⟨d27,F27⟩:=F27
 obtain ⟨d28,⟨⟨oc,od,kV,doc,pm,an,cdv,ct,osl,rfl,l,c⟩,k⟩⟩:=F28
 have F28:=fun_mk (st:=s_law) l c k
 have T:Txt K mg ⟨C_Office,f0,d0,f1,d1,f2,d2,f3,d3,f4,d4,f5,d5,f6,d6,f7,d7,f8,d8,f9,d9,f10,d10,f11,d11,f12,d12,f13,d13,f14,d14,f15,d15,f16,d16,f17,d17,f18,d18,f19,d19,f20,d20,f21,d21,f22,d22,f23,d23,f24,d24,f25,d25,f26,d26,f27,d27,f28,_⟩:=⟨F0,W.mg_of X G a0,F1,W.mg_of X G a1,F2,W.mg_of X G a2,F3,W.mg_of X G a3,F4,W.mg_of X G a4,F5,W.mg_of X G a5,F6,W.mg_of X G a6,F7,W.mg_of X G a7,F8,W.mg_of X G a8,F9,W.mg_of X G a9,F10,W.mg_of X G a10,F11,F12,W.mg_of X G a12,F13,W.mg_of X G a13,F14,F15,F16,F17,F18,F19,F20,F21,F22,W.mg_of X G a22,F23,W.mg_of X G a23,F24,F25,W.mg_of X G a25,F26,W.mg_of X G a26,F27,W.mg_of X G a27,F28,W.mg_of X G a28,W.mg_of X G aC_Office,⟨pg_Office,hd_Office,po_Office,sa_Office⟩,⟨mk_Office,a11_Office,i11,kc_Office⟩,na_Office_folk,na_Office_roles,na_Office_pairs,na_Office_right_bits,na_Office_bringers,⟨a21_Office,i21,F21.kp⟩,⟨a14_Office,i14,F14.kp⟩,⟨a19_Office,i19,F19.kp⟩,⟨a15_Office,i15,F15.kp⟩,⟨a20_Office,i20,F20.kp⟩,⟨a18_Office,i18,F18.kp⟩,⟨a16_Office,i16,F16.kp⟩,⟨a17_Office,i17,F17.kp⟩,⟨a24_Office,i24,F24.kp⟩,W.mg_none_of X G z_all,W.mg_none_of X G z_bool,W.mg_none_of X G z_enumerate,W.mg_none_of X G z_int,W.mg_none_of X G z_isinstance,W.mg_none_of X G z_len,W.mg_none_of X G z_list,W.mg_none_of X G z_max,W.mg_none_of X G z_min,W.mg_none_of X G z_range,W.mg_none_of X G z_str,W.mg_none_of X G z_tuple,⟨_,W.mg_of X G q_LETTERS,_,rfl⟩,⟨_,W.mg_of X G q_LONGEST_NAME,_,rfl⟩,⟨_,W.mg_of X G q_MOST_BITS,_,rfl⟩,⟨_,W.mg_of X G q_MOST_FOLK,_,rfl⟩,⟨_,W.mg_of X G q_MOST_PAIRS,_,rfl⟩,⟨_,W.mg_of X G q_MOST_ROLES,_,rfl⟩⟩
 exact ⟨_,fun s v=>.of_eq rfl,fun base _ _=>ok_law' T⟩
theorem walk {l : W.OpenLaw} {q : Program} {loose : List Str} {XP : (Str → Option Value) → Heap → Prop} {YP : World → Heap → Prop} {d : DefRec} {K : Params → W.Frag} (hn : l.most = some 63) (hdf : d.params.defaults = [])
    (hY : ∀ (w : World) (h : Heap), YP w h → (K w.params).In h)
    (F : ∀ (w : World) (mg : Str → Option Value) (fa : Addr) (h : Heap), (K w.params).In h → h.Ns mainGlobals mg → mg d.name = some (.ref fa) →
      ∃ fd : FuncData, (∀ (s : Shared) (u : Value), BindsTo s fd ⟨[u], []⟩ [("_law_script", u)]) ∧ ∀ base : Heap, (K w.params).In base → base.Ns mainGlobals mg → FnOk l.prog w (K w.params) mg base CX0 6 fa fd ["_law_script"] (sp_law (K w.params))) :
    W.WalkO q loose XP YP l.row.toRowW d [] (fun f vs => PySem.call f vs) :=
  L2.walk_of (n := 63) (k := 6) (x := "_law_script") (CX := fun _ => CX0) (sp := fun w => sp_law (K w.params)) hn (by decide) hdf ⟨rfl, by decide, by decide⟩ hY F (fun _ _ a ns hl hO hS => ⟨a, ns, rfl, hS, hO, hl, fun _ => rfl⟩) fun _ _ _ _ _ z => z
end My
open PySem PySem.W PyProof.Rows
set_option maxRecDepth 100000 in
set_option maxHeartbeats 0 in
theorem PySem.Challenge.cw_mightever_k03_bits_and_rights_holds : PySem.Challenge.rw_mightever_k03_bits_and_rights.Holds := by
 w_on; o_law; k_head; (case hw=>w_witness2)
 k_fill
 refine My.walk (l:=PySem.Challenge.rw_mightever_k03_bits_and_rights) rfl rfl (fun w h Y=>W.kIn_of Y) ?F
 case F=>
  intro w mg fa h KX G hmg
  refine' My.all_mk KX G hmg ?aC_Office ?pg_Office ?hd_Office ?po_Office ?sa_Office ?mk_Office ?kc_Office ?na_Office_folk ?na_Office_roles ?na_Office_pairs ?na_Office_right_bits ?na_Office_bringers ?a0 ?F0 ?a1 ?F1 ?a2 ?F2 ?a3 ?F3 ?a4 ?F4 ?a5 ?F5 ?a6 ?F6 ?a7 ?F7 ?a8 ?F8 ?a9 ?F9 ?a10 ?F10 ?a11_Office ?i11 ?F11 ?a12 ?F12 ?a13 ?F13 ?a14_Office ?i14 ?F14 ?a15_Office ?i15 ?F15 ?a16_Office ?i16 ?F16 ?a17_Office ?i17 ?F17 ?a18_Office ?i18 ?F18 ?a19_Office ?i19 ?F19 ?a20_Office ?i20 ?F20 ?a21_Office ?i21 ?F21 ?a22 ?F22 ?a23 ?F23 ?a24_Office ?i24 ?F24 ?a25 ?F25 ?a26 ?F26 ?a27 ?F27 ?a28 ?F28 ?hn ?htk ?z_all ?z_bool ?z_enumerate ?z_int ?z_isinstance ?z_len ?z_list ?z_max ?z_min ?z_range ?z_str ?z_tuple ?q_LETTERS ?q_LONGEST_NAME ?q_MOST_BITS ?q_MOST_FOLK ?q_MOST_PAIRS ?q_MOST_ROLES
  (case aC_Office=>k_is)
  (case pg_Office=>k_is)
  (case hd_Office=>k_is)
  (case po_Office=>k_is)
  (case sa_Office=>k_is)
  (case mk_Office=>k_is)
  (case kc_Office=>k_is)
  (case na_Office_folk=>k_is)
  (case na_Office_roles=>k_is)
  (case na_Office_pairs=>k_is)
  (case na_Office_right_bits=>k_is)
  (case na_Office_bringers=>k_is)
  (case a0=>k_is)
  (case F0=>exact My.fx_mk)
  (case a1=>k_is)
  (case F1=>exact My.fx_mk)
  (case a2=>k_is)
  (case F2=>exact My.fx_mk)
  (case a3=>k_is)
  (case F3=>exact My.fx_mk)
  (case a4=>k_is)
  (case F4=>exact My.fx_mk)
  (case a5=>k_is)
  (case F5=>exact My.fx_mk)
  (case a6=>k_is)
  (case F6=>exact My.fx_mk)
  (case a7=>k_is)
  (case F7=>exact My.fx_mk)
  (case a8=>k_is)
  (case F8=>exact My.fx_mk)
  (case a9=>k_is)
  (case F9=>exact My.fx_mk)
  (case a10=>k_is)
  (case F10=>exact My.fx_mk)
  (case a11_Office=>k_is)
  (case i11=>k_is)
  (case F11=>exact My.fx_mk)
  (case a12=>k_is)
  (case F12=>exact My.fx_mk)
  (case a13=>k_is)
  (case F13=>exact My.fx_mk)
  (case a14_Office=>k_is)
  (case i14=>k_is)
  (case F14=>exact My.fx_mk)
  (case a15_Office=>k_is)
  (case i15=>k_is)
  (case F15=>exact My.fx_mk)
  (case a16_Office=>k_is)
  (case i16=>k_is)
  (case F16=>exact My.fx_mk)
  (case a17_Office=>k_is)
  (case i17=>k_is)
  (case F17=>exact My.fx_mk)
  (case a18_Office=>k_is)
  (case i18=>k_is)
  (case F18=>exact My.fx_mk)
  (case a19_Office=>k_is)
  (case i19=>k_is)
  (case F19=>exact My.fx_mk)
  (case a20_Office=>k_is)
  (case i20=>k_is)
  (case F20=>exact My.fx_mk)
  (case a21_Office=>k_is)
  (case i21=>k_is)
  (case F21=>exact My.fx_mk)
  (case a22=>k_is)
  (case F22=>exact My.fx_mk)
  (case a23=>k_is)
  (case F23=>exact My.fx_mk)
  (case a24_Office=>k_is)
  (case i24=>k_is)
  (case F24=>exact My.fx_mk)
  (case a25=>k_is)
  (case F25=>exact My.fx_mk)
  (case a26=>k_is)
  (case F26=>exact My.fx_mk)
  (case a27=>k_is)
  (case F27=>exact My.fx_mk)
  (case a28=>k_is)
  (case F28=>exact My.fx_mk)
  (case hn=>k_is)
  (case htk=>k_is)
  (case z_all=>k_is)
  (case z_bool=>k_is)
  (case z_enumerate=>k_is)
  (case z_int=>k_is)
  (case z_isinstance=>k_is)
  (case z_len=>k_is)
  (case z_list=>k_is)
  (case z_max=>k_is)
  (case z_min=>k_is)
  (case z_range=>k_is)
  (case z_str=>k_is)
  (case z_tuple=>k_is)
  (case q_LETTERS=>k_is)
  (case q_LONGEST_NAME=>k_is)
  (case q_MOST_BITS=>k_is)
  (case q_MOST_FOLK=>k_is)
  (case q_MOST_PAIRS=>k_is)
  (case q_MOST_ROLES=>k_is)
#print axioms PySem.Challenge.cw_mightever_k03_bits_and_rights_holds
