import PyProof.Rows.All
import Wide.All
import OpenK.AllK
import Wide.FinOn
import Lean
import PyProof.EqAt
import PyProof.EqKinds
import PyProof.TupleCall
import PyProof.ZipIter
import PyProof.Rows.Range3
import PyProof.EnumFor
import PyProof.SumWalk
import PyProof.EnumMake
import PyProof.EnumStmt
import OpenK.KOwn
import KE.KIsAll
import PyProof.Rows.Catch
import PyProof.NsDelKeeps
import KE.KSortTup
import KE.KSortAsk
import KE.KUnpack
import PySem.Challenge.RW_fractionroads_k35_whole_roads_of_the_lev
set_option maxHeartbeats 8000000
open List (mem_filter mem_range mem_filterMap filterMap_cons mem_cons_self mem_cons_of_mem mem_cons mem_append getElem?_set_self getElem?_set_ne mem_append_right any_eq_false length_cons map_cons length_map append_nil nodup_cons of_mem_zip replicate length length_take getElem?_append_right getElem?_replicate getElem?_append_left getElem?_map mem_of_getElem? length_append length_replicate length_drop size_toArray length_set all_cons any_cons reverse_cons replicate_succ flatten_cons foldl append_assoc foldl_cons map_nil Pairwise not_mem_nil length_nil ext_getElem? filterMap_map getElem?_eq_getElem getElem?_range getElem?_eq_none map_congr_left length_reverse find?_cons drop_eq_getElem_cons drop_length getElem?_cons_succ lookup_cons forIn_cons map_append mem_map all_eq_true range_succ filter_append contains_iff_mem Nodup pairwise_lt_range findIdx?_eq_some_iff_getElem getElem_mem getElem_range length_range filter_cons_of_pos filter_cons_of_neg filter_congr getD_eq_getElem?_getD ext_getElem getElem_map pairwise_cons sum_cons sum_append mem_singleton length_filter_le map_filterMap take_length map_map map_replicate map_set take_zero map map_id mem_replicate map_drop drop_one length_tail)
open Nat (lt_of_lt_of_le lt_irrefl ne_of_lt le_trans le_of_lt ne_of_gt le_refl le_of_eq zero_le le_succ mul_comm lt_of_le_of_lt mul_le_mul one_mul pow_add pow_succ mul_assoc pow_le_pow_right add_mul lt_trans ble le_of_ble_eq_true beq eq_of_beq_eq_true gcd_comm mod_lt Coprime mul_mod mod_eq_of_lt mul_le_mul_right gcd_assoc mod_add_div gcd_dvd_right gcd_dvd_left dvd_gcd dvd_one dvd_trans zero_mul lt_or_ge le_of_dvd beq_refl ble_eq)
open Int (gcd mul_one toNat_natCast emod_nonneg emod_lt_of_pos natAbs_add_le natAbs_mul gcd_zero_right natCast_emod emod_add_mul_ediv natCast_dvd_natCast dvd_add dvd_mul_of_dvd_left dvd_sub natCast_mul toNat mul_zero add_zero zero_add gcd_one_left natAbs_neg natAbs_eq)
open PyProof.Rows (boot_zip boot_int boot_bool boot_abs boot_list boot_sorted boot_divmod)
local macro_rules | `(tactic| walk_at "w")=>`(tactic| conv=>whnf)
local macro_rules | `(tactic| walk_at "v")=>`(tactic| ((conv=>whnf);repeat ((refine⟨_,rfl,?_⟩);(conv=>whnf))))
local macro_rules | `(tactic| walk_at "m")=>`(tactic| ((repeat ((conv=>whnf);(refine⟨⟨by assumption,by assumption⟩,?_⟩)));(conv=>whnf)))
set_option Elab.async false
set_option linter.all false
set_option maxRecDepth 100000
open PySem.W (instObj methodObj hideAll hideAll_get of_hideAll hideAll_none lookIn InstAt plainGet hasDictIn findIn handedIn plainGet_of isFn plainOver takerIn makesIn typeIn emptyDict keepIn methodCall_KW mroIn kitOne kia_one kitx_list kitx_tuple kitx_dict callWith_K cellsFrom_some fnOf codeIn excIn nsIn kas_sort KasT mg_of mg_none_of kIn_of)
section HeadS
namespace Fr
open PySem
def vwAt (i:Nat):Stmt:=PySem.Challenge.pw_fractionroads_k35_whole_roads_of_the_lev.main.body.getD i (.Pass ⟨0,0,0,0⟩)
def vw:Program:={ PySem.Challenge.pw_fractionroads_k35_whole_roads_of_the_lev with main:={ PySem.Challenge.pw_fractionroads_k35_whole_roads_of_the_lev.main with body:=[vwAt 0,vwAt 2,vwAt 3,vwAt 4,vwAt 6,vwAt 7,vwAt 8,vwAt 10,vwAt 11,vwAt 12,vwAt 13,vwAt 15,vwAt 16,vwAt 17,vwAt 18,vwAt 19,vwAt 21,vwAt 22,vwAt 23,vwAt 24,vwAt 25,vwAt 26,vwAt 27,vwAt 28,vwAt 29,vwAt 31,vwAt 32,vwAt 33,vwAt 34,vwAt 35,vwAt 36,vwAt 37,vwAt 38,vwAt 39,vwAt 41,vwAt 42,vwAt 43,vwAt 44,vwAt 45,vwAt 46,vwAt 47,vwAt 48,vwAt 49,vwAt 50,vwAt 51,vwAt 52,vwAt 53,vwAt 54,vwAt 55] } }
end Fr
open PySem PySem.W PyProof.Rows
local macro_rules | `(tactic| o_head $H)=>`(tactic| refine holds_open (q:=Fr.vw) (loose:=[]) (Xt:=fun s=>xlAt Fr.vw [] s && recOk (RowW.records (OpenRow.toRowW (OpenLaw.row PySem.Challenge.rw_fractionroads_k35_whole_roads_of_the_lev))) s) (XP:=XL Fr.vw []) (Yf:=Hook.obs $H) (Ya:=Hook.val $H) (YP:=Hook.says $H) (N:=20100) ?hl (Hook.of $H) (Hook.keeps $H) (fun s e=>xl_of s (Bool.and_eq_true_iff.mp e).1) XL.keeps (by rfl) (by rfl) (by rfl) (fun s e=>recFacts_of (Bool.and_eq_true_iff.mp e).2) (by rfl) (by assumption) (by decide +kernel) ⟨rfl,rfl,rfl,rfl,rfl,by decide +kernel⟩ ?hw ?hc)
def Fr.topRun (w:World):Option Shared:=openEnds treeTable PySem.Challenge.pw_fractionroads_k35_whole_roads_of_the_lev w 20100
lay_quick Fr.topRun
set_option maxRecDepth 100000 in
set_option maxHeartbeats 0 in
def Fr.headPack:PSigma fun G:Prop=>(G→PySem.Challenge.rw_fractionroads_k35_whole_roads_of_the_lev.Holds):=by
 refine' ⟨_,fun g=>_⟩
 rotate_left
 w_on;o_law;k_head
 (case hw=>w_witness2)
 (case hl=>intro w;refine (congrArg (Option.map _) (congrFun PySem.W.Fast.te1390306406435745066 w)).trans ?_;kernel_rfl)
 k_fill
 exact g
end HeadS
namespace L2
open PySem PySem.Spec PyProof.Rows
abbrev Key:=Sum Int Str
def aE9:Key→Value→Bool
 | .inl k,v=>Value.isInt k v
 | .inr x,v=>Value.isStrOf x v
def keyH (w:World):Key→Int
 | .inl k=>hashInt k
 | .inr x=>hashStr w x
theorem af2:∀ {k:Key} {v:Value},aE9 k v=true→(∃ i t,k=Sum.inl i∧v=Value.int i t)∨(∃ x t,k=Sum.inr x∧v=Value.str x t)
 | .inl i,v,h=>by
  obtain⟨t,e⟩:=Value.isInt_shape (k:=i) (v:=v) h
  exact .inl ⟨i,t,rfl,e⟩
 | .inr x,v,h=>by
  obtain⟨t,e⟩:=Value.isStrOf_shape (x:=x) (v:=v) h
  exact .inr ⟨x,t,rfl,e⟩
theorem bl0 (i:Int)(t:Tok):aE9 (.inl i) (.int i t)=true:=by simp [aE9,Value.isInt]
theorem bl1 (x:Str)(t:Tok):aE9 (.inr x) (.str x t)=true:=by simp [aE9,Value.isStrOf]
theorem bN4 (a b:Int):decide ((Sum.inl a:Key)=Sum.inl b)=(a == b):=by
 by_cases e:a=b
 ·subst e;simp
 ·have h:¬ (Sum.inl a:Key)=Sum.inl b:=fun q=>e (Sum.inl.inj q)
  rw [decide_eq_false h]
  exact (beq_eq_false_iff_ne.mpr e).symm
theorem bN5 (a b:Str):decide ((Sum.inr a:Key)=Sum.inr b)=decide (a=b):=by
 by_cases e:a=b
 ·subst e;simp
 ·have h:¬ (Sum.inr a:Key)=Sum.inr b:=fun q=>e (Sum.inr.inj q)
  rw [decide_eq_false h,decide_eq_false e]
theorem bN6 (a:Int)(b:Str):decide ((Sum.inl a:Key)=Sum.inr b)=false:=decide_eq_false (fun q=>nomatch q)
theorem bN7 (a:Str)(b:Int):decide ((Sum.inr a:Key)=Sum.inl b)=false:=decide_eq_false (fun q=>nomatch q)
def ag2 (prog:Program)(w:World):PySem.KeyKind prog w Key where
 is:=aE9
 hash:=keyH w
 inj:=fun v a b ha hb=>by
  rcases af2 ha with ⟨i,t,rfl,rfl⟩ | ⟨x,t,rfl,rfl⟩
  ·rcases af2 hb with ⟨j,u,rfl,e⟩ | ⟨y,u,rfl,e⟩
   ·injection e with e1 _;rw [e1]
   ·exact nomatch e
  ·rcases af2 hb with ⟨j,u,rfl,e⟩ | ⟨y,u,rfl,e⟩
   ·exact nomatch e
   ·injection e with e1 _;rw [e1]
 byValue:=fun k v h=>by
  rcases af2 h with ⟨i,t,rfl,rfl⟩ | ⟨x,t,rfl,rfl⟩ <;> rfl
 pyHash:=fun hv h=>by
  rcases af2 hv with ⟨i,t,rfl,rfl⟩ | ⟨x,t,rfl,rfl⟩
  ·exact wpAny_pyHash_int h
  ·exact wpAny_pyHash_str h
 eqBool:=fun hu hv h=>by
  rcases af2 hu with ⟨i,t,rfl,rfl⟩ | ⟨x,t,rfl,rfl⟩
  ·rcases af2 hv with ⟨j,u,rfl,rfl⟩ | ⟨y,u,rfl,rfl⟩
   ·rw [bN4] at h;exact wpAny_eqBool_int h
   ·rw [bN6] at h;exact SeqAt.EqAt.int_str i t y u _ _ _ _ h
  ·rcases af2 hv with ⟨j,u,rfl,rfl⟩ | ⟨y,u,rfl,rfl⟩
   ·rw [bN7] at h;exact SeqAt.EqAt.str_int x t j u _ _ _ _ h
   ·rw [bN5] at h;exact wpAny_eqBool_str h
 «strs»:=fun k x t v h=>by
  rcases af2 h with ⟨i,u,rfl,e⟩ | ⟨y,u,rfl,e⟩
  ·exact nomatch e
  ·injection e with e1 _
   subst e1
   cases v <;> rfl
theorem ba5 (prog:Program)(w:World)(i:Int)(t:Tok):(ag2 prog w).is (.inl i) (.int i t)=true:=bl0 i t
theorem ba6 (prog:Program)(w:World)(x:Str)(t:Tok):(ag2 prog w).is (.inr x) (.str x t)=true:=bl1 x t
inductive V where
 | non | bl (b:Bool) | int (i:Int) | str (x:Str) | byt (b:Array UInt8) | flt (b:UInt64) | ref (a:Addr) | ty (n:String)
 deriving DecidableEq
def RelV:V→Value→Prop
 | .non,u=>u=Value.none
 | .bl b,u=>u=Value.bool b
 | .int i,u=>∃ t,u=Value.int i t
 | .str x,u=>∃ t,u=Value.str x t
 | .byt b,u=>∃ t,u=Value.bytes b t
 | .flt b,u=>∃ t,u=Value.float b t
 | .ref a,u=>u=Value.ref a
 | .ty n,u=>u=Value.type n
abbrev Vals:List V→List Value→Prop:=Paired RelV
theorem Vals.length {xs:List V}{us:List Value}(r:Vals xs us):xs.length=us.length:=Paired.length r
theorem Vals.get:∀ {xs:List V} {us:List Value} {i:Nat} {x:V},Vals xs us→xs[i]?=some x→∃ u,us[i]?=some u∧RelV x u
 | _,_,_,_,.nil,e=>by simp at e
 | _,_,0,_,.cons r _,e=>by simp at e;subst e;exact⟨_,rfl,r⟩
 | _,_,i+1,x,.cons _ t,e=>by
  obtain⟨u,h1,h2⟩:=Vals.get (i:=i) (x:=x) t (by simpa using e)
  exact⟨u,by simpa using h1,h2⟩
theorem Vals.set {x:V}{u:Value}(r:RelV x u):∀ {xs:List V} {us:List Value} (i:Nat),Vals xs us→Vals (xs.set i x) (us.set i u)
 | _,_,_,.nil=>.nil
 | _,_,0,.cons _ t=>.cons r t
 | _,_,i+1,.cons q t=>.cons q (Vals.set r i t)
theorem Vals.append:∀ {xs ys:List V} {us ws:List Value},Vals xs us→Vals ys ws→Vals (xs++ys) (us++ws)
 | _,_,_,_,.nil,s=>s
 | _,_,_,_,.cons r t,s=>.cons r (Vals.append t s)
theorem Vals.take:∀ {xs:List V} {us:List Value} (n:Nat),Vals xs us→Vals (xs.take n) (us.take n)
 | _,_,0,_=>.nil
 | _,_,_+1,.nil=>.nil
 | _,_,n+1,.cons r t=>.cons r (Vals.take n t)
theorem Vals.drop:∀ {xs:List V} {us:List Value} (n:Nat),Vals xs us→Vals (xs.drop n) (us.drop n)
 | _,_,0,r=>r
 | _,_,_+1,.nil=>.nil
 | _,_,n+1,.cons _ t=>Vals.drop n t
def RelO:Option V→Option Value→Prop
 | some v,some u=>RelV v u
 | none,none=>True
 | _,_=>False
def KV {κ:Type}:List (κ×V)→List (κ×Value)→Prop:=Paired fun (p:κ×V) (q:κ×Value)=>p.1=q.1∧RelV p.2 q.2
def kV:Key→V
 | .inl i=>.int i
 | .inr x=>.str x
inductive HO where
 | lst (xs:List V)
 | tup (xs:List V)
 | dK (kvs:List (Key×V)) | dT (kvs:List (List Key×V))
 | set (S:Int→Bool) (n:Nat)
 | ins (C dx:Addr) (fs:List (Str×V))
 | own (x:Addr)
 | xd (fs:List (Str×V))
 | met (f x:Addr)
 | rng (lo hi:Int)
 | frz (o:Obj) (u:HO)
 | tbl (ps:Array Value)
 | ext (φ:Heap→Prop)
abbrev Hp:=Addr→Option HO
def upd (H:Hp)(a:Addr)(o:HO):Hp:=fun b=>if b=a then some o else H b
theorem ab5 {H:Hp}{a:Addr}{o:HO}:upd H a o a=some o:=by unfold upd;rw [if_pos rfl]
theorem ab2 {H:Hp}{a b:Addr}{o:HO}(h:b≠a):upd H a o b=H b:=by unfold upd;rw [if_neg h]
theorem bc1 {H:Hp}{a:Addr}{o u:HO}:upd (upd H a o) a u=upd H a u:=by
 funext b;unfold upd;split <;> rfl
theorem bW3 {H:Hp}{a b:Addr}{o u:HO}(h:H a=some o)(h':H b=some u)(d:o≠u):a≠b:=by
 intro e;subst e;rw [h] at h';exact d (Option.some.inj h')
theorem ad8 {H:Hp}{a b:Addr}{o:HO}(h:H a=some o)(h':H b=none):a≠b:=by
 intro e;subst e;rw [h] at h';cases h'
section
variable (P:Program)(w:World)
def ObjOk (H:Hp)(h:Heap)(a:Addr):HO→Prop
 | .lst xs=>xs.length≤sizeLine∧∃ (its:List Value) (n:Nat),Vals xs its∧h.get? a=some { cls:=.type "list",data:=.seq its.toArray n }
 | .tup xs=>xs.length≤sizeLine∧∃ its:List Value,Vals xs its∧IsTup h a its.toArray
 | .dK kvs=>kvs.length≤sizeLine∧(a == sysModules)=false∧∃ vs,KV kvs vs∧h.DictOf (ag2 P w) a vs
 | .dT kvs=>kvs.length≤sizeLine∧(a == sysModules)=false∧∃ xs:List (List Key×Addr×Value),
   Paired (fun (p:List Key×V) (q:List Key×Addr×Value)=>p.1=q.1∧H q.2.1=some (.tup (p.1.map kV))∧RelV p.2 q.2.2) kvs xs ∧
   ∃ o es ep,h.get? a=some o∧o.ExactDict∧o.data=.dict es ep∧es.toList=xs.map (entryOfKey (tupleKind (ag2 P w)))∧(xs.map (·.1)).Nodup
 | .set S n=>h.SetOf (intKind P w) a S n
 | .ins C dx fs=>H dx=some (.own a)∧fs.length≤1000∧dx≠a∧h.get? a=some (instObj C dx) ∧
   ∃ mA,h.Ns1 dx mA∧(∀ f,RelO (fs.lookup f) (mA f))∧PySem.Within mA (fs.map (·.1))
 | .own _=>∃ o,h.get? a=some o
 | .xd fs=>∃ mA,h.Ns1 a mA∧∀ f,RelO (fs.lookup f) (mA f)
 | .rng lo hi=>∃ t u v,h.get? a=some { cls:=.type "range",data:=.fields #[.int lo t,.int hi u,.int 1 v] }
 | .frz o u=>h.get? a=some o∧ObjOk H h a u
 | .tbl ps=>h.get? a=some { cls:=.none,data:=.fields ps }
 | .met f x=>h.get? a=some (methodObj (.ref f) (.ref x))
 | .ext φ=>φ h∧(∃ o,h.get? a=some o)∧∀ h1 h2:Heap,φ h1→(∀ o,h1.get? a=some o→h2.get? a=some o)→φ h2
def HOk (H:Hp)(h:Heap):Prop:=∀ a o,H a=some o→ObjOk P w H h a o
end
section
variable {P:Program}{w:World}{H H':Hp}{h h':Heap}{a:Addr}{o:HO}
theorem ObjOk.lt (x:ObjOk P w H h a o):a < h.objs.size:=by
 cases o with
 | lst xs=>obtain⟨_,_,_,_,e⟩:=x;exact Heap.lt_size e
 | tup xs=>obtain⟨_,_,_,p⟩:=x;exact p.lt
 | dK kvs=>obtain⟨_,_,_,_,o,_,_,e,_⟩:=x;exact Heap.lt_size e
 | dT kvs=>obtain⟨_,_,_,_,o,_,_,e,_⟩:=x;exact Heap.lt_size e
 | set S n=>obtain⟨o,_,_,_,e,_⟩:=x;exact Heap.lt_size e
 | ins C dx fs=>obtain⟨_,_,_,e,_⟩:=x;exact Heap.lt_size e
 | own y=>obtain⟨_,e⟩:=x;exact Heap.lt_size e
 | xd fs=>obtain⟨_,⟨_,_,_,e,_⟩,_⟩:=x;exact Heap.lt_size e
 | rng lo hi=>obtain⟨_,_,_,e⟩:=x;exact Heap.lt_size e
 | frz ob u=>obtain⟨e,_⟩:=x;exact Heap.lt_size e
 | tbl ps=>exact Heap.lt_size (show h.get? a=some _ from x)
 | met f y=>exact Heap.lt_size (show h.get? a=some _ from x)
 | ext φ=>obtain⟨_,⟨_,e⟩,_⟩:=x;exact Heap.lt_size e
theorem Paired.mapP {α β:Type}{F G:α→β→Prop}:∀ {l₁:List α} {l₂:List β},Paired F l₁ l₂→(∀ a b,F a b→G a b)→Paired G l₁ l₂
 | _,_,.nil,_=>.nil
 | _,_,.cons r t,f=>.cons (f _ _ r) (Paired.mapP t f)
theorem ObjOk.stay (x:ObjOk P w H h a o)(k:∀ b u,(b=a∨H b=some (.own a))→h.get? b=some u→h'.get? b=some u)
  (ho:∀ b,H b=some (.own a)→H' b=some (.own a)) (ht:∀ b xs,H b=some (.tup xs)→H' b=some (.tup xs)):ObjOk P w H' h' a o:=by
 induction o with
 | lst xs=>obtain⟨z,its,n,r,e⟩:=x;exact⟨z,its,n,r,k _ _ (.inl rfl) e⟩
 | tup xs=>obtain⟨z,its,r,ob,e,c⟩:=x;exact⟨z,its,r,ob,k _ _ (.inl rfl) e,c⟩
 | dK kvs=>obtain⟨z,y,vs,r,ob,es,ep,e,c⟩:=x;exact⟨z,y,vs,r,ob,es,ep,k _ _ (.inl rfl) e,c⟩
 | dT kvs =>
  obtain⟨z,y,xs,r,ob,es,ep,e,c⟩:=x
  exact⟨z,y,xs,Paired.mapP r fun p q z=>⟨z.1,ht _ _ z.2.1,z.2.2⟩,ob,es,ep,k _ _ (.inl rfl) e,c⟩
 | set S n=>obtain⟨ob,es,ep,t,e,c⟩:=x;exact⟨ob,es,ep,t,k _ _ (.inl rfl) e,c⟩
 | ins C dx fs =>
  obtain⟨d,z,ne,e,mA,⟨od,es,ep,e2,c⟩,r⟩:=x
  exact⟨ho _ d,z,ne,k _ _ (.inl rfl) e,mA,⟨od,es,ep,k _ _ (.inr d) e2,c⟩,r⟩
 | own y=>obtain⟨ob,e⟩:=x;exact⟨ob,k _ _ (.inl rfl) e⟩
 | xd fs=>obtain⟨mA,⟨od,es,ep,e,c⟩,r⟩:=x;exact⟨mA,⟨od,es,ep,k _ _ (.inl rfl) e,c⟩,r⟩
 | rng lo hi=>obtain⟨t,u,v,e⟩:=x;exact⟨t,u,v,k _ _ (.inl rfl) e⟩
 | frz ob u ih=>obtain⟨e,q⟩:=x;exact⟨k _ _ (.inl rfl) e,ih q⟩
 | tbl ps =>
  have e:h.get? a=some { cls:=.none,data:=.fields ps }:=x
  show h'.get? a=some { cls:=.none,data:=.fields ps }
  exact k a _ (.inl rfl) e
 | met f y =>
  have e:h.get? a=some (methodObj (.ref f) (.ref y)):=x
  show h'.get? a=some (methodObj (.ref f) (.ref y))
  exact k a _ (.inl rfl) e
 | ext φ=>obtain⟨p,⟨o,e⟩,st⟩:=x;exact⟨st _ _ p fun o q=>k _ _ (.inl rfl) q,⟨o,k _ _ (.inl rfl) e⟩,st⟩
theorem HOk.lt (x:HOk P w H h)(e:H a=some o):a < h.objs.size:=(x a o e).lt
theorem HOk.fresh (x:HOk P w H h)(e:h.objs.size≤a):H a=none:=by
 cases q:H a with
 | none=>rfl
 | some u=>exact absurd (lt_of_lt_of_le (x.lt q) e) (lt_irrefl _)
theorem HOk.kept (x:HOk P w H h)(k:∀ b u,h.get? b=some u→h'.get? b=some u):HOk P w H h':=fun a o e =>
 (x a o e).stay (fun b u _ q=>k b u q) (fun _ q=>q) fun _ _ q=>q
theorem HOk.laid (x:HOk P w H h)(k:∀ b u,h.get? b=some u→h'.get? b=some u)(hp:h.objs.size≤a)(new:ObjOk P w (upd H a o) h' a o):HOk P w (upd H a o) h':=fun b u e=>by
 have hn:=x.fresh hp
 by_cases hb:b=a
 ·subst hb;rw [ab5] at e;cases e;exact new
 ·rw [ab2 hb] at e
  exact (x b u e).stay (fun c v _ q=>k c v q) (fun c q=>by rw [ab2 (ad8 q hn)];exact q) fun c xs q=>by rw [ab2 (ad8 q hn)];exact q
end
def Rd (H:Hp)(a:Addr)(u:HO):Prop:=H a=some u∨∃ o,H a=some (.frz o u)
theorem Rd.ok {P:Program}{w:World}{H:Hp}{h:Heap}{a:Addr}{u:HO}(r:Rd H a u)(x:HOk P w H h):ObjOk P w H h a u:=by
 rcases r with r | ⟨o,r⟩
 ·exact x a u r
 ·obtain⟨_,q⟩:=x a _ r
  exact q
def Mut:Option HO→Prop
 | some (.lst _)=>True
 | some (.dK _)=>True
 | some (.dT _)=>True
 | some (.set _ _)=>True
 | some (.ins _ _ _)=>True
 | some (.ext _)=>True
 | _=>False
section
variable {P:Program}{w:World}{H:Hp}{h h':Heap}{x e:Addr}{o':HO}
theorem HOk.write (ok:HOk P w H h)(mu:Mut (H x))(he:e=x∨H e=some (.own x))(k:∀ b u,b≠e→h.get? b=some u→h'.get? b=some u)(heo:∃ u,h'.get? e=some u)
  (new:ObjOk P w (upd H x o') h' x o'):HOk P w (upd H x o') h':=fun b u q=>by
 have nown:∀ c y,H c=some (.own y)→c≠x:=fun c y r z=>by subst z;rw [r] at mu;exact mu
 have ntup:∀ c xs,H c=some (.tup xs)→c≠x:=fun c xs r z=>by subst z;rw [r] at mu;exact mu
 by_cases hb:b=x
 ·subst hb;rw [ab5] at q;cases q;exact new
 ·rw [ab2 hb] at q
  by_cases hbe:b=e
  ·have q':H b=some (.own x):=by
    rcases he with z | z
    ·exact absurd (hbe.trans z) hb
    ·rw [hbe];exact z
   rw [q] at q';cases q'
   obtain⟨v,hv⟩:=heo
   exact⟨v,by rw [hbe];exact hv⟩
  ·refine (ok b u q).stay (fun c v hc r=>k c v ?_ r) (fun c r=>by rw [ab2 (nown c b r)];exact r) fun c xs r=>by rw [ab2 (ntup c xs r)];exact r
   rcases hc with rfl | hc
   ·exact hbe
   ·rintro rfl
    rcases he with z | z
    ·exact nown c b hc z
    ·rw [hc] at z;cases z;exact hb rfl
end
structure Un (fs ex:List Addr) (H H':Hp) (h h':Heap):Prop where
 keep:∀ b o,h.get? b=some o→H b=none→b ∉ fs→b ∉ ex→h'.get? b=some o
 slot:∀ b o,h.get? b=some o→H b=none→b∈fs→b ∉ ex→∃ sl,h'.get? b=some { o with slots:=sl }
 free:∀ b o,h.get? b=some o→H b=none→b ∉ ex→H' b=none
 there:∀ b o,h.get? b=some o→b ∉ ex→∃ o',h'.get? b=some o'
 tups:∀ b xs,H b=some (.tup xs)→H' b=some (.tup xs)
 frzs:∀ b o u,H b=some (.frz o u)→H' b=some (.frz o u)
 tbls:∀ b ps,H b=some (.tbl ps)→∃ more,H' b=some (.tbl (ps++more))
section
variable {fs fs' ex ex':List Addr}{H H1 H2:Hp}{h h1 h2 h':Heap}{a x e:Addr}{o:HO}
theorem Un.any (u:Un fs ex H H1 h h1){b:Addr}{ob:Obj}(q:h.get? b=some ob)(n:H b=none)(hx:b ∉ ex):∃ sl,h1.get? b=some { ob with slots:=sl }:=by
 by_cases hb:b∈fs
 ·exact u.slot b ob q n hb hx
 ·exact⟨ob.slots,u.keep b ob q n hb hx⟩
theorem Un.kept (k:∀ b u,h.get? b=some u→h'.get? b=some u):Un fs ex H H h h' :=
 ⟨fun b ob q _ _ _=>k b ob q,fun b ob q _ _ _=>⟨ob.slots,k b ob q⟩,fun _ _ _ n _=>n,fun b ob q _=>⟨ob,k b ob q⟩,fun _ _ q=>q,fun _ _ _ q=>q,fun _ ps q=>⟨#[],by rw [q];simp⟩⟩
theorem Un.refl:Un fs ex H H h h:=Un.kept fun _ _ q=>q
theorem Un.laid (k:∀ b u,h.get? b=some u→h'.get? b=some u)(hp:h.objs.size≤a)(hn:H a=none):Un fs ex H (upd H a o) h h' where
 keep:=fun b u q _ _ _=>k b u q
 slot:=fun b u q _ _ _=>⟨u.slots,k b u q⟩
 free:=fun b u q n _=>by rw [ab2 (ne_of_lt (lt_of_lt_of_le (Heap.lt_size q) hp))];exact n
 there:=fun b u q _=>⟨u,k b u q⟩
 tups:=fun b xs q=>by rw [ab2 (ad8 q hn)];exact q
 frzs:=fun b u xs q=>by rw [ab2 (ad8 q hn)];exact q
 tbls:=fun b ps q=>⟨#[],by rw [ab2 (ad8 q hn),q];simp⟩
theorem Un.write (mu:Mut (H x))(he:e=x∨H e=some (.own x))(k:∀ b u,b≠e→h.get? b=some u→h'.get? b=some u)(heo:∃ u,h'.get? e=some u):Un fs ex H (upd H x o) h h':=by
 have hx:∀ b,H b=none→b≠x:=fun b n z=>by subst z;rw [n] at mu;exact mu
 have hb:∀ b,H b=none→b≠e:=fun b n z=>by
  subst z
  rcases he with r | r
  ·exact hx b n r
  ·rw [n] at r;cases r
 have hm:∀ b u,H b=some u→¬ Mut (some u)→b≠x:=fun b u q nm z=>by subst z;rw [q] at mu;exact nm mu
 refine⟨fun b u q n _ _=>k b u (hb b n) q,fun b u q n _ _=>⟨u.slots,k b u (hb b n) q⟩,fun b u q n _=>by rw [ab2 (hx b n)];exact n,fun b u q _=>?_,
  fun b xs q=>by rw [ab2 (hm b _ q fun z=>z)];exact q,fun b u xs q=>by rw [ab2 (hm b _ q fun z=>z)];exact q,fun b ps q=>⟨#[],by rw [ab2 (hm b _ q fun z=>z),q];simp⟩⟩
 by_cases hbe:b=e
 ·subst hbe;exact heo
 ·exact⟨u,k b u hbe q⟩
end
def trk (h:Heap)(H:Hp):List Addr:=(List.range h.objs.size).filter fun a=>(H a).isSome
def hidT (h:Heap)(H:Hp):Heap:=hideAll h (trk h H)
theorem bl2 (h:Heap)(H:Hp):(hidT h H).objs.size=h.objs.size:=PySem.W.hideAll_size _ _
theorem bt9 {h:Heap}{H:Hp}{b:Addr}{o:Obj}(e:h.get? b=some o)(n:H b=none):(hidT h H).get? b=some o :=
 hideAll_get _ e fun hm=>by
  have q:(H b).isSome=true:=(mem_filter.mp hm).2
  rw [n] at q;simp at q
theorem bE7 {h:Heap}{H:Hp}{b:Addr}{o:Obj}(e:(hidT h H).get? b=some o):h.get? b=some o∧H b=none:=by
 have e':h.get? b=some o:=of_hideAll (trk h H) e
 refine⟨e',?_⟩
 cases q:H b with
 | none=>rfl
 | some x =>
  have hm:b∈trk h H:=mem_filter.mpr ⟨mem_range.mpr (Heap.lt_size e'),by simp [q]⟩
  have z:(hidT h H).get? b=none:=hideAll_none (trk h H) hm
  rw [z] at e;cases e
def aF0 (g h:Heap)(L:Addr):List (Addr×Obj):=(List.range h.objs.size).filterMap fun a=>if a=L∨(g.get? a).isSome=true then none else (h.get? a).map fun o=>(a,o)
theorem aH5 {g h:Heap}{L a:Addr}{o:Obj}(h1:a≠L)(h2:g.get? a=none)(h3:h.get? a=some o):(a,o)∈aF0 g h L :=
 mem_filterMap.mpr ⟨a,mem_range.mpr (Heap.lt_size h3),by simp [h1,h2,h3]⟩
theorem aN4 {g h:Heap}{L:Addr}{p:Addr×Obj}(hp:p∈aF0 g h L):p.1≠L∧g.get? p.1=none∧h.get? p.1=some p.2:=by
 obtain⟨b,_,e⟩:=mem_filterMap.mp hp
 split at e
 ·cases e
 ·rename_i hn
  cases q:h.get? b with
  | none=>rw [q] at e;simp at e
  | some u =>
   rw [q] at e
   simp only [Option.map_some,Option.some.injEq] at e
   subst e
   refine⟨fun z=>hn (.inl z),?_,q⟩
   show g.get? b=none
   cases r:g.get? b with
   | none=>rfl
   | some v=>exact (hn (.inr (by simp [r]))).elim
theorem bu0 {g h:Heap}{L:Addr}:News g L h (aF0 g h L):=fun p hp=>let ⟨a,b,c⟩:=aN4 hp;⟨c,a,b⟩
structure Mod (K:PySem.W.Frag) (mg:Str→Option Value) (base:Heap):Prop where
 kin:K.In base
 glob:base.Ns mainGlobals mg
 blt:∃ mb,base.Ns builtinsNs mb∧∀ x:Str,x≠"__name__"→mb x=bootBuiltins x
 nolimit:base.NoLimit
structure Cx where
 prog:Program
 w:World
 K:PySem.W.Frag
 mg:Str→Option Value
 base:Heap
 A:Around
 N:List Str
 s₀:Shared
 H₀:Hp
 env:Env
 outer:List Env
 stack:List Env
 ex:List Addr
 fn:Str→Bool
 calm:Bool
 pn:List (Addr×Obj)
 xe:Value→Shared→Prop
def frs (l:List Env):List Addr:=l.filterMap (·.frame)
abbrev Cx.fs (X:Cx):List Addr:=frs X.outer
def Vis (sc:Scope)(x:Str):Prop:=sc.names.lookup x=some .local∨sc.names.lookup x=some .cell∨sc.names.lookup x=some .free
def Loc (sc:Scope)(x:Str):Prop:=sc.names.lookup x=some .local∨sc.names.lookup x=some .cell
def Look (env:Env)(h:Heap)(m:Str→Option Value)(x:Str)(u:Value):Prop :=
 (env.kindOf x=some .local∧m x=some u)∨((env.kindOf x=some .cell∨env.kindOf x=some .free)∧∃ c,env.cells.lookup x=some c∧h.IsCell c (some u))
structure Cx.Ok (X:Cx):Prop where
 mod:Mod X.K X.mg X.base
 kind:X.env.scope.kind=.function
 glob:X.env.globals=mainGlobals
 blt:X.env.builtins=builtinsNs
 above:X.s₀.heap.objs.size≤X.env.locals
 inj:∀ x y c,X.env.cells.lookup x=some c→X.env.cells.lookup y=some c→x=y
 has:∀ x,(X.env.kindOf x=some .cell∨X.env.kindOf x=some .free)→∃ c,X.env.cells.lookup x=some c
 cab:∀ x c,X.fn x=true→X.env.cells.lookup x=some c→X.s₀.heap.objs.size≤c
 hd:X.calm=true→X.A.handled=none
 frames:X.A.frames=some X.stack
 stk:X.stack=X.outer∨(X.stack=X.env::X.outer∧X.env.frame=some X.env.locals)
 exf:∀ b∈X.ex,b≠X.env.locals∧∀ x c,X.env.cells.lookup x=some c→c≠b
 bs:∀ b o,X.base.get? b=some o→X.s₀.heap.get? b=some o∧X.H₀ b=none
 bsz:X.base.objs.size≤X.s₀.heap.objs.size
 noex:∀ b o,X.base.get? b=some o→b ∉ X.ex
 exfs:∀ b∈X.ex,b ∉ X.fs
 funs:X.s₀.heap.FunFrames X.base X.outer
 frf:∀ b∈X.fs,X.H₀ b=none
structure Inv (X:Cx) (pins:List (Addr×Obj)) (σ:List (Option V)) (H:Hp) (s:Shared):Prop where
 ok:X.Ok
 os:s.os=X.s₀.os
 bare:AllBare s.gens
 base:Un X.fs X.ex X.H₀ H X.s₀.heap s.heap
 loc:∃ m,s.heap.Ns X.env.locals m∧∀ (i:Nat) (x:Str) (v:V),X.N[i]?=some x→σ[i]?=some (some v)→Vis X.env.scope x→∃ u,RelV v u∧Look X.env s.heap m x u
 cell:∀ x c,X.env.cells.lookup x=some c→∃ v,s.heap.IsCell c v
 free:H X.env.locals=none
 freeC:∀ x c,X.env.cells.lookup x=some c→H c=none
 pin:∀ p∈X.pn++pins,s.heap.get? p.1=some p.2∧H p.1=none∧p.1≠X.env.locals∧p.1 ∉ X.fs∧∀ v,p.2.data≠.cell v
 hok:HOk X.prog X.w H s.heap
 len:σ.length=X.N.length
section
variable {X:Cx}{pins:List (Addr×Obj)}{σ:List (Option V)}{H H':Hp}{s:Shared}{h':Heap}
theorem Cx.Ok.nofr (ok:X.Ok){b:Addr}{o:Obj}(e:X.base.get? b=some o):b ∉ X.fs:=fun hb=>by
 have:=(ok.funs.mem hb).1
 rw [e] at this;cases this
theorem Inv.bs (I:Inv X pins σ H s):∀ b o,X.base.get? b=some o→s.heap.get? b=some o∧H b=none:=fun b o e =>
 ⟨I.base.keep b o (I.ok.bs b o e).1 (I.ok.bs b o e).2 (I.ok.nofr e) (I.ok.noex b o e),I.base.free b o (I.ok.bs b o e).1 (I.ok.bs b o e).2 (I.ok.noex b o e)⟩
theorem Inv.bk (I:Inv X pins σ H s):∀ b o,X.base.get? b=some o→s.heap.get? b=some o:=fun b o e=>(I.bs b o e).1
theorem Inv.mod (I:Inv X pins σ H s):Mod X.K X.mg X.base:=I.ok.mod
theorem Inv.kIn (I:Inv X pins σ H s):X.K.In s.heap:=I.ok.mod.kin.keeps I.bk
theorem Inv.fr (I:Inv X pins σ H s):∃ m,Fr X.base X.env.locals s.heap m :=
 let ⟨m,hn,_⟩:=I.loc
 ⟨m,hn,I.bk,le_trans I.ok.bsz I.ok.above⟩
theorem Inv.lt (I:Inv X pins σ H s):X.env.locals < s.heap.objs.size:=let ⟨_,hn,_⟩:=I.loc;hn.lt
theorem Inv.sz (I:Inv X pins σ H s):X.s₀.heap.objs.size≤s.heap.objs.size:=le_trans I.ok.above (le_of_lt I.lt)
theorem Inv.nofs (I:Inv X pins σ H s){a:Addr}(h:s.heap.objs.size≤a):a ∉ X.fs:=fun hb=>by
 obtain⟨_,o,ho,_⟩:=I.ok.funs.mem hb
 exact absurd (lt_of_lt_of_le (Heap.lt_size ho) (le_trans I.sz h)) (lt_irrefl _)
theorem Inv.cne (I:Inv X pins σ H s):∀ x c,X.env.cells.lookup x=some c→c≠X.env.locals:=fun x c e z=>by
 obtain⟨v,o,ho,hd⟩:=I.cell x c e
 obtain⟨m,⟨o',es,ep,ho',hd',_⟩,_⟩:=I.loc
 rw [z,ho'] at ho;cases ho;rw [hd'] at hd;cases hd
theorem Inv.funs (I:Inv X pins σ H s):s.heap.FunFrames X.base X.outer:=by
 have all:∀ (l:List Env),(∀ b∈frs l,b∈X.fs)→X.s₀.heap.FunFrames X.base l→s.heap.FunFrames X.base l:=by
  intro l
  induction l with
  | nil=>intro _ _;trivial
  | cons env r ih =>
   intro hs hl
   obtain⟨hk,⟨L,o,hf,hn,ho,hd⟩,hr⟩:=hl
   have hL:L∈X.fs:=hs L (by unfold frs;rw [filterMap_cons,hf];exact mem_cons_self)
   obtain⟨sl,e⟩:=I.base.slot L o ho (I.ok.frf L hL) hL fun z=>I.ok.exfs L z hL
   exact⟨hk,⟨L,_,hf,hn,e,hd⟩,ih (fun b hb=>hs b (by unfold frs;rw [filterMap_cons,hf];exact mem_cons_of_mem _ hb)) hr⟩
 exact all X.outer (fun _ hb=>hb) I.ok.funs
theorem Inv.stack (I:Inv X pins σ H s):s.heap.FunFrames X.base X.stack:=by
 rcases I.ok.stk with e | ⟨e,hf⟩
 ·rw [e];exact I.funs
 ·rw [e]
  obtain⟨m,hn,_⟩:=I.loc
  refine .cons (by rw [I.ok.kind];decide) hf hn ?_ I.funs
  exact Heap.get?_none_of_le (le_trans I.ok.bsz I.ok.above)
theorem Inv.stkSub (I:Inv X pins σ H s):∀ b∈frs X.stack,b∈X.env.locals::X.fs:=fun b hb=>by
 rcases I.ok.stk with e | ⟨e,hf⟩
 ·rw [e] at hb;exact mem_cons_of_mem _ hb
 ·rw [e] at hb
  unfold frs at hb
  rw [filterMap_cons,hf] at hb
  exact hb
theorem Inv.stkFree (I:Inv X pins σ H s):∀ b∈frs X.stack,H b=none:=fun b hb=>by
 rcases mem_cons.mp (I.stkSub b hb) with e | hb
 ·rw [e];exact I.free
 ·obtain⟨_,o,ho,_⟩:=I.ok.funs.mem hb
  exact I.base.free b o ho (I.ok.frf b hb) fun z=>I.ok.exfs b z hb
theorem Inv.step {g':Array GenState}{t':Nat}{d':Drawn}{ch:List Addr}(I:Inv X pins σ H s)
  (hch:∀ b∈ch,(b∈X.ex∨X.s₀.heap.objs.size≤b)∧b≠X.env.locals∧(∀ x c,X.env.cells.lookup x=some c→c≠b)∧∀ p∈X.pn++pins,p.1≠b)
  (keep:∀ b o,b≠X.env.locals→b ∉ X.fs→b ∉ ch→s.heap.get? b=some o→H b=none→h'.get? b=some o)
  (slot:∀ b o,b≠X.env.locals→b∈X.fs→b ∉ ch→s.heap.get? b=some o→H b=none→∃ sl,h'.get? b=some { o with slots:=sl }) (free:∀ b o,b ∉ ch→s.heap.get? b=some o→H b=none→H' b=none)
  (there:∀ b o,b ∉ ch→s.heap.get? b=some o→∃ o',h'.get? b=some o')
  (tups:∀ b xs,H b=some (.tup xs)→H' b=some (.tup xs)) (frzs:∀ b o u,H b=some (.frz o u)→H' b=some (.frz o u)) (tbls:∀ b ps,H b=some (.tbl ps)→∃ more,H' b=some (.tbl (ps++more)))
  (ns:∀ m,s.heap.Ns X.env.locals m→h'.Ns X.env.locals m) (hok:HOk X.prog X.w H' h') (hg:AllBare g') :
  Inv X pins σ H' { s with heap:=h',gens:=g',drawn:=d',toks:=t' }:=by
 have neL:∀ b o,X.s₀.heap.get? b=some o→b≠X.env.locals:=fun b o e=>ne_of_lt (lt_of_lt_of_le (Heap.lt_size e) I.ok.above)
 have neC:∀ b o,X.s₀.heap.get? b=some o→b ∉ X.ex→b ∉ ch:=fun b o e hx hb=>by
  rcases (hch b hb).1 with z | z
  ·exact hx z
  ·exact absurd (lt_of_lt_of_le (Heap.lt_size e) z) (lt_irrefl _)
 have cellK:∀ x c,X.env.cells.lookup x=some c→∀ v,s.heap.IsCell c v→h'.IsCell c v:=fun x c e v ⟨o,ho,hd⟩=>by
  have nch:c ∉ ch:=fun z=>(hch c z).2.2.1 x c e rfl
  by_cases hc:c∈X.fs
  ·obtain⟨sl,q⟩:=slot c o (I.cne x c e) hc nch ho (I.freeC x c e)
   exact⟨_,q,hd⟩
  ·exact⟨o,keep c o (I.cne x c e) hc nch ho (I.freeC x c e),hd⟩
 refine⟨I.ok,I.os,hg,⟨fun b o e n hb hx=>?_,fun b o e n hb hx=>?_,fun b o e n hx=>?_,fun b o e hx=>?_,fun b xs e=>tups b xs (I.base.tups b xs e),fun b o xs e=>frzs b o xs (I.base.frzs b o xs e),fun b ps e=>?_⟩,?_,fun x c e=>?_,?_,fun x c e=>?_,fun p hp=>?_,hok,I.len⟩
 ·exact keep b o (neL b o e) hb (neC b o e hx) (I.base.keep b o e n hb hx) (I.base.free b o e n hx)
 ·obtain⟨sl,e1⟩:=I.base.slot b o e n hb hx
  obtain⟨sl',e2⟩:=slot b _ (neL b o e) hb (neC b o e hx) e1 (I.base.free b o e n hx)
  exact⟨sl',e2⟩
 ·obtain⟨o',e1⟩:=I.base.there b o e hx
  exact free b o' (neC b o e hx) e1 (I.base.free b o e n hx)
 ·obtain⟨o',e1⟩:=I.base.there b o e hx
  exact there b o' (neC b o e hx) e1
 ·obtain⟨m1,e1⟩:=I.base.tbls b ps e
  obtain⟨m2,e2⟩:=tbls b _ e1
  exact⟨m1++m2,by rw [e2,Array.append_assoc]⟩
 ·obtain⟨m,hn,hl⟩:=I.loc
  refine⟨m,ns m hn,fun i x v e1 e2 e3=>?_⟩
  obtain⟨u,r,l⟩:=hl i x v e1 e2 e3
  refine⟨u,r,?_⟩
  rcases l with l | ⟨k,c,e,z⟩
  ·exact .inl l
  ·exact .inr ⟨k,c,e,cellK x c e _ z⟩
 ·obtain⟨v,z⟩:=I.cell x c e
  exact⟨v,cellK x c e v z⟩
 ·obtain⟨m,⟨o,_,_,ho,_⟩,_⟩:=I.loc
  exact free _ o (fun z=>(hch _ z).2.1 rfl) ho I.free
 ·obtain⟨v,o,ho,hd⟩:=I.cell x c e
  exact free c o (fun z=>(hch c z).2.2.1 x c e rfl) ho (I.freeC x c e)
 ·obtain⟨e,n,ne,nf,d⟩:=I.pin p hp
  have nch:p.1 ∉ ch:=fun z=>(hch p.1 z).2.2.2 p hp rfl
  exact⟨keep p.1 p.2 ne nf nch e n,free p.1 p.2 nch e n,ne,nf,d⟩
theorem Inv.un {t':Nat}(I:Inv X pins σ H s)(u:Un X.fs [] H H' s.heap h')(hok:HOk X.prog X.w H' h'):Inv X pins σ H' { s with heap:=h',toks:=t' }:=by
 obtain⟨m,⟨o,es,ep,ho,r⟩,_⟩:=id I.loc
 obtain⟨sl,hL⟩:=u.any ho I.free (by simp)
 exact I.step (g':=s.gens) (d':=s.drawn) (ch:=[]) (fun _ z=>nomatch z) (fun b o _ hb _ e n=>u.keep b o e n hb (by simp)) (fun b o _ hb _ e n=>u.slot b o e n hb (by simp)) (fun b o _ e n=>u.free b o e n (by simp)) (fun b o _ e=>u.there b o e (by simp)) u.tups u.frzs u.tbls (fun m' hm=>by
  obtain⟨o',es',ep',ho',r'⟩:=hm
  rw [ho] at ho';cases ho'
  exact⟨_,es',ep',hL,r'⟩) hok I.bare
theorem Inv.call {g':Array GenState}{t':Nat}{d':Drawn}{ch:List Addr}(I:Inv X pins σ H s)(u:Un (frs X.stack) ch H H' s.heap h')(hok:HOk X.prog X.w H' h')(hg:AllBare g')
  (hch:∀ b∈ch,(b∈X.ex∨X.s₀.heap.objs.size≤b)∧b≠X.env.locals∧(∀ x c,X.env.cells.lookup x=some c→c≠b)∧∀ p∈X.pn++pins,p.1≠b) :
  Inv X pins σ H' { s with heap:=h',gens:=g',drawn:=d',toks:=t' }:=by
 obtain⟨m,⟨o,es,ep,ho,r⟩,_⟩:=id I.loc
 obtain⟨sl,hL⟩:=u.any ho I.free fun z=>(hch _ z).2.1 rfl
 exact I.step (ch:=ch) hch (fun b o hL hb hc e n=>u.keep b o e n (fun z=>(mem_cons.mp (I.stkSub b z)).elim hL hb) hc) (fun b o _ _ hc e n=>u.any e n hc) (fun b o hc e n=>u.free b o e n hc) (fun b o hc e=>u.there b o e hc) u.tups u.frzs u.tbls (fun m' hm=>by
  obtain⟨o',es',ep',ho',r'⟩:=hm
  rw [ho] at ho';cases ho'
  exact⟨_,es',ep',hL,r'⟩) hok hg
theorem Inv.turned {t':Nat}{it:Addr}(I:Inv X pins σ H s)(k:∀ b o,b≠it→s.heap.get? b=some o→h'.get? b=some o)(hn:H it=none)(hL:it≠X.env.locals)
  (h1:it∈X.ex∨X.s₀.heap.objs.size≤it) (h2:∀ x c,X.env.cells.lookup x=some c→c≠it) (h3:∀ p∈X.pn++pins,p.1≠it):Inv X pins σ H { s with heap:=h',toks:=t' }:=by
 have nit:∀ b u,H b=some u→b≠it:=fun b u e z=>by rw [z,hn] at e;cases e
 refine I.step (g':=s.gens) (d':=s.drawn) (ch:=[it]) (fun b hb=>?_) (fun b o _ _ hc e _=>k b o (fun z=>hc (by simp [z])) e) (fun b o _ _ hc e _=>⟨o.slots,k b o (fun z=>hc (by simp [z])) e⟩) (fun _ _ _ _ n=>n)
  (fun b o hc e=>⟨o,k b o (fun z=>hc (by simp [z])) e⟩) (fun _ _ e=>e) (fun _ _ _ e=>e) (fun b ps e=>⟨#[],by rw [e];simp⟩) (fun m hm=>?_) (fun b u e=>?_) I.bare
 ·have e:b=it:=by simpa using hb
  subst e
  exact⟨h1,hL,h2,h3⟩
 ·obtain⟨o,es,ep,ho,r⟩:=hm
  exact⟨o,es,ep,k _ o (Ne.symm hL) ho,r⟩
 ·refine (I.hok b u e).stay (fun c v hc q=>k c v ?_ q) (fun _ q=>q) fun _ _ q=>q
  rcases hc with z | z
  ·rw [z];exact nit b u e
  ·exact nit c _ z
theorem Inv.tok (I:Inv X pins σ H s)(t:Nat):Inv X pins σ H { s with toks:=t }:=I.un (h':=s.heap) (t':=t) Un.refl I.hok
theorem Inv.kept {t':Nat}(I:Inv X pins σ H s)(k:∀ b u,s.heap.get? b=some u→h'.get? b=some u):Inv X pins σ H { s with heap:=h',toks:=t' }:=I.un (Un.kept k) (I.hok.kept k)
theorem Inv.laid {a:Addr}{o:HO}{t':Nat}(I:Inv X pins σ H s)(k:∀ b u,s.heap.get? b=some u→h'.get? b=some u)(hp:s.heap.objs.size≤a)(new:ObjOk X.prog X.w (upd H a o) h' a o) :
  Inv X pins σ (upd H a o) { s with heap:=h',toks:=t' }:=I.un (Un.laid k hp (I.hok.fresh hp)) (I.hok.laid k hp new)
theorem Inv.write {x e:Addr}{o:HO}{t':Nat}(I:Inv X pins σ H s)(mu:Mut (H x))(he:e=x∨H e=some (.own x))(k:∀ b u,b≠e→s.heap.get? b=some u→h'.get? b=some u)(heo:∃ u,h'.get? e=some u)
  (new:ObjOk X.prog X.w (upd H x o) h' x o):Inv X pins σ (upd H x o) { s with heap:=h',toks:=t' }:=I.un (Un.write mu he k heo) (I.hok.write mu he k heo new)
theorem Inv.pins_of {pins':List (Addr×Obj)}(I:Inv X pins σ H s)(h:∀ p∈pins',s.heap.get? p.1=some p.2∧H p.1=none∧p.1≠X.env.locals∧p.1 ∉ X.fs∧∀ v,p.2.data≠.cell v):Inv X pins' σ H s :=
 ⟨I.ok,I.os,I.bare,I.base,I.loc,I.cell,I.free,I.freeC,fun p hp=>(mem_append.mp hp).elim (fun z=>I.pin p (List.mem_append_left _ z)) (h p),I.hok,I.len⟩
theorem aU2 {N:List Str}(hN:N.Nodup){i j:Nat}{x:Str}(a:N[i]?=some x)(b:N[j]?=some x):i=j:=by
 obtain⟨h1,e1⟩:=List.getElem?_eq_some_iff.mp a
 obtain⟨h2,e2⟩:=List.getElem?_eq_some_iff.mp b
 exact (List.getElem_inj hN).mp (e1.trans e2.symm)
theorem aQ4 {M:Model}{A:Around}{E:Value→Shared→Prop}{i:Nat}{x:Str}{v:V}{u:Value}{Q:Unit→Shared→Prop}(I:Inv X pins σ H s)(hN:X.N.Nodup)(hi:X.N[i]?=some x)(hx:Loc X.env.scope x)(r:RelV v u)
  (h:∀ s',Inv X pins (σ.set i (some v)) H s'→(∃ a,Heap.SameBut a s.heap s'.heap∧(a=X.env.locals∨X.env.cells.lookup x=some a))→Q () s') (hf:X.fn x=true∨X.env.scope.names.lookup x=some .local:=by first | exact .inl rfl | exact .inr rfl | assumption):wpAny M A (storeName X.env x u) Q E s:=by
 obtain⟨m,hn,hl⟩:=id I.loc
 have hcls:(X.env.scope.kind == .class || (X.env.scope.kind == .module && X.env.locals != X.env.globals))=false:=by rw [I.ok.kind];rfl
 have hiσ:i < σ.length:=by rw [I.len];exact (List.getElem?_eq_some_iff.mp hi).1
 have cne:=I.cne
 have tracked:∀ {a:Addr} {h':Heap},(∃ o,s.heap.get? a=some o∧H a=none)→Heap.SameBut a s.heap h'→HOk X.prog X.w H h':=fun {a h'} ha hs b ob e=>by
  obtain⟨_,_,hfree⟩:=ha
  refine (I.hok b ob e).stay (fun c w' hc q=>(hs.2 c ?_).trans q) (fun _ q=>q) fun _ _ q=>q
  rintro rfl
  rcases hc with rfl | hc
  ·rw [hfree] at e;cases e
  ·rw [hfree] at hc;cases hc
 rcases hx with hk | hk
 ·refine wpAny_storeName_local hk hn (fun h' hn' hs=>?_) hcls
  obtain⟨oL,_,_,hoL,_⟩:=id hn
  refine h _ ⟨I.ok,I.os,I.bare,⟨fun b o e n hb hx=>?_,fun b o e n hb hx=>?_,I.base.free,fun b o e hx=>?_,I.base.tups,I.base.frzs,I.base.tbls⟩,⟨_,hn',fun j y v' e1 e2 e3=>?_⟩,fun y c e=>?_,I.free,I.freeC,fun p hp=>?_,tracked ⟨oL,hoL,I.free⟩ hs,by simpa using I.len⟩ ⟨_,hs,.inl rfl⟩
  ·exact (hs.2 b (ne_of_lt (lt_of_lt_of_le (Heap.lt_size e) I.ok.above))).trans (I.base.keep b o e n hb hx)
  ·obtain⟨sl,e1⟩:=I.base.slot b o e n hb hx
   exact⟨sl,(hs.2 b (ne_of_lt (lt_of_lt_of_le (Heap.lt_size e) I.ok.above))).trans e1⟩
  ·obtain⟨o',e1⟩:=I.base.there b o e hx
   exact⟨o',(hs.2 b (ne_of_lt (lt_of_lt_of_le (Heap.lt_size e) I.ok.above))).trans e1⟩
  ·by_cases hj:j=i
   ·subst hj
    rw [hi] at e1;cases e1
    rw [getElem?_set_self hiσ] at e2
    cases e2
    exact⟨u,r,.inl ⟨hk,by simp⟩⟩
   ·rw [getElem?_set_ne (Ne.symm hj)] at e2
    obtain⟨u',r',q⟩:=hl j y v' e1 e2 e3
    refine⟨u',r',?_⟩
    rcases q with ⟨k,e⟩ | ⟨k,c,e,z⟩
    ·refine .inl ⟨k,?_⟩
     have:y≠x:=fun e=>hj (aU2 hN e1 (e ▸ hi))
     simp [this,e]
    ·exact .inr ⟨k,c,e,z.sameBut hs (cne y c e)⟩
  ·obtain⟨w',z⟩:=I.cell y c e
   exact⟨w',z.sameBut hs (cne y c e)⟩
  ·obtain⟨e,n,ne,nf,d⟩:=I.pin p hp
   exact⟨(hs.2 p.1 ne).trans e,n,ne,nf,d⟩
 ·have hfn:X.fn x=true:=by
   rcases hf with z | z
   ·exact z
   ·rw [z] at hk;cases hk
  obtain⟨c,hc⟩:=I.ok.has x (.inl hk)
  obtain⟨w',z⟩:=I.cell x c hc
  refine wpAny_storeName_cell I.ok.kind hk hc z (fun h' hc' hs=>?_)
  obtain⟨oc,hoc,hocd⟩:=id z
  refine h { s with heap:=h' } ⟨I.ok,I.os,I.bare,⟨fun b o e n hb hx=>?_,fun b o e n hb hx=>?_,I.base.free,fun b o e hx=>?_,I.base.tups,I.base.frzs,I.base.tbls⟩,⟨m,hn.sameBut hs (Ne.symm (cne x c hc)),fun j y v' e1 e2 e3=>?_⟩,fun y c' e=>?_,I.free,I.freeC,fun p hp=>?_,tracked ⟨oc,hoc,I.freeC x c hc⟩ hs,by simpa using I.len⟩ ⟨c,hs,.inr hc⟩
  ·exact (hs.2 b (ne_of_lt (lt_of_lt_of_le (Heap.lt_size e) (I.ok.cab x c hfn hc)))).trans (I.base.keep b o e n hb hx)
  ·obtain⟨sl,e1⟩:=I.base.slot b o e n hb hx
   exact⟨sl,(hs.2 b (ne_of_lt (lt_of_lt_of_le (Heap.lt_size e) (I.ok.cab x c hfn hc)))).trans e1⟩
  ·obtain⟨o',e1⟩:=I.base.there b o e hx
   exact⟨o',(hs.2 b (ne_of_lt (lt_of_lt_of_le (Heap.lt_size e) (I.ok.cab x c hfn hc)))).trans e1⟩
  ·by_cases hj:j=i
   ·subst hj
    rw [hi] at e1;cases e1
    rw [getElem?_set_self hiσ] at e2
    cases e2
    exact⟨u,r,.inr ⟨.inl hk,c,hc,hc'⟩⟩
   ·rw [getElem?_set_ne (Ne.symm hj)] at e2
    obtain⟨u',r',q⟩:=hl j y v' e1 e2 e3
    refine⟨u',r',?_⟩
    rcases q with q | ⟨k,c',e,z'⟩
    ·exact .inl q
    ·refine .inr ⟨k,c',e,z'.sameBut hs ?_⟩
     rintro rfl
     exact hj (aU2 hN e1 (I.ok.inj _ _ _ e hc ▸ hi))
  ·by_cases hcc:c'=c
   ·subst hcc;exact⟨_,hc'⟩
   ·obtain⟨w2,z2⟩:=I.cell y c' e
    exact⟨w2,z2.sameBut hs hcc⟩
  ·obtain⟨e,n,ne,nf,d⟩:=I.pin p hp
   refine⟨(hs.2 p.1 ?_).trans e,n,ne,nf,d⟩
   intro q
   rw [q,hoc] at e
   have q':oc=p.2:=Option.some.inj e
   exact d w' (by rw [← q'];exact hocd)
theorem ay1 {M:Model}{A:Around}{E:Value→Shared→Prop}{i:Nat}{x:Str}{v:V}{u:Value}{Q:Unit→Shared→Prop}(I:Inv X pins σ H s)(hN:X.N.Nodup)(hi:X.N[i]?=some x)(hx:Loc X.env.scope x)(r:RelV v u)
  (h:∀ s',Inv X pins (σ.set i (some v)) H s'→Q () s') (hf:X.fn x=true∨X.env.scope.names.lookup x=some .local:=by first | exact .inl rfl | exact .inr rfl | assumption):wpAny M A (storeName X.env x u) Q E s :=
 aQ4 I hN hi hx r (fun s' I' _=>h s' I') hf
theorem Inv.call' {s':Shared}{ch:List Addr}(I:Inv X pins σ H s)(ho:s'.os=s.os)(u:Un (frs X.stack) ch H H' s.heap s'.heap)(hok:HOk X.prog X.w H' s'.heap)(hg:AllBare s'.gens)
  (hch:∀ b∈ch,(b∈X.ex∨X.s₀.heap.objs.size≤b)∧b≠X.env.locals∧(∀ x c,X.env.cells.lookup x=some c→c≠b)∧∀ p∈X.pn++pins,p.1≠b):Inv X pins σ H' s':=by
 obtain⟨h',g',d',t',o'⟩:=s'
 have e:o'=s.os:=ho
 subst e
 exact I.call (g':=g') (t':=t') (d':=d') u hok hg hch
end
abbrev XK:=Value→Option Addr→Hp→Prop
abbrev St:=List (Option V)
abbrev VK:=V→Hp→Prop
abbrev TE:=St→Hp→VK→Prop
abbrev TT:=St→Hp→(Bool→Hp→Prop)→Prop
abbrev TA:=St→Hp→(List V→Hp→Prop)→Prop
structure Ends where
 nx:St→Hp→Prop
 rt:VK
 bk:St→Hp→Prop:=fun _ _=>False
 ct:St→Hp→Prop:=fun _ _=>False
abbrev TS:=Ends→St→Hp→Prop
def EP (X:Cx)(pins:List (Addr×Obj))(σ:St)(Q:VK)(u:Value)(s':Shared):Prop:=∃ v H',Inv X pins σ H' s'∧RelV v u∧Q v H'
def TP (X:Cx)(pins:List (Addr×Obj))(σ:St)(Q:Bool→Hp→Prop)(b:Bool)(s':Shared):Prop:=∃ H',Inv X pins σ H' s'∧Q b H'
def AP (X:Cx)(pins:List (Addr×Obj))(σ:St)(Q:List V→Hp→Prop)(us:List Value)(s':Shared):Prop:=∃ vs H',Inv X pins σ H' s'∧Vals vs us∧Q vs H'
def SP (X:Cx)(pins:List (Addr×Obj))(D:Ends)(f:Flow)(s':Shared):Prop :=
 match f with
 | .next=>∃ σ' H',Inv X pins σ' H' s'∧D.nx σ' H'
 | .brk=>∃ σ' H',Inv X pins σ' H' s'∧D.bk σ' H'
 | .cont=>∃ σ' H',Inv X pins σ' H' s'∧D.ct σ' H'
 | .ret u=>∃ v σ' H',Inv X pins σ' H' s'∧RelV v u∧D.rt v H'
def PE (X:Cx)(e:Expr)(t:TE):Prop :=
 ∀ (pins:List (Addr×Obj)) (s:Shared) (σ:St) (H:Hp) (Q:VK),Inv X pins σ H s→t σ H Q→wpAny (model X.prog X.w) X.A (eval e X.env) (EP X pins σ Q) X.xe s
def PT (X:Cx)(e:Expr)(t:TT):Prop :=
 ∀ (pins:List (Addr×Obj)) (s:Shared) (σ:St) (H:Hp) (Q:Bool→Hp→Prop),Inv X pins σ H s→t σ H Q→wpAny (model X.prog X.w) X.A (isTrue e X.env (eval e X.env)) (TP X pins σ Q) X.xe s
def PW (X:Cx)(e:Expr)(t:TT):Prop :=
 ∀ (whole:Sem Value) (pins:List (Addr×Obj)) (s:Shared) (σ:St) (H:Hp) (Q:Bool→Hp→Prop),Inv X pins σ H s→t σ H Q→wpAny (model X.prog X.w) X.A (isTrue e X.env whole) (TP X pins σ Q) X.xe s
theorem PW.pt {X:Cx}{e:Expr}{t:TT}(h:PW X e t):PT X e t:=h _
def PA (X:Cx)(es:List Expr)(t:TA):Prop :=
 ∀ (pos:Pos) (pins:List (Addr×Obj)) (s:Shared) (σ:St) (H:Hp) (Q:List V→Hp→Prop),Inv X pins σ H s→t σ H Q→wpAny (model X.prog X.w) X.A (spliced (backTo pos (starEach es X.env))) (AP X pins σ Q) X.xe s
def PS (X:Cx)(st:Stmt)(t:TS):Prop :=
 ∀ (pins:List (Addr×Obj)) (s:Shared) (σ:St) (H:Hp) (D:Ends),Inv X pins σ H s→t D σ H→wpAny (model X.prog X.w) X.A (exec st X.env) (SP X pins D) X.xe s
def PSs (X:Cx)(st:List Stmt)(t:TS):Prop :=
 ∀ (pins:List (Addr×Obj)) (s:Shared) (σ:St) (H:Hp) (D:Ends),Inv X pins σ H s→t D σ H→wpAny (model X.prog X.w) X.A (execs st X.env) (SP X pins D) X.xe s
theorem thn {α:Type}{t:Sem α}{Q Q':α→Shared→Prop}{M:Model}{A:Around}{E:Value→Shared→Prop}{s:Shared}(h:wpAny M A t Q E s)(hQ:∀ a s,Q a s→Q' a s):wpAny M A t Q' E s:=wpAny_mono h hQ fun _ _ x=>x
section
variable {X:Cx}
theorem bin {a b:Expr}{ta tb:TE}(ha:PE X a ta)(hb:PE X b tb){pins:List (Addr×Obj)}{s:Shared}{σ:St}{H:Hp}{R:V→V→Hp→Prop}(I:Inv X pins σ H s)(h:ta σ H fun x H1=>tb σ H1 fun y H2=>R x y H2)
  {α:Type} {Q:α→Shared→Prop} {f:Value→Value→Sem α}
  (hf:∀ v u s2 x y H2,Inv X pins σ H2 s2→RelV x v→RelV y u→R x y H2→wpAny (model X.prog X.w) X.A (f v u) Q X.xe s2) :
  wpAny (model X.prog X.w) X.A (eval a X.env) (fun v s₁=>wpAny (model X.prog X.w) X.A (eval b X.env) (fun u s₂=>wpAny (model X.prog X.w) X.A (f v u) Q X.xe s₂) X.xe s₁) X.xe s:=by
 refine thn (ha pins s σ H _ I h) fun v s1 ⟨x,H1,I1,r1,q1⟩=>?_
 refine thn (hb pins s1 σ H1 _ I1 q1) fun u s2 ⟨y,H2,I2,r2,q2⟩=>?_
 exact hf v u s2 x y H2 I2 r1 r2 q2
def tVar (i:Nat):TE:=fun σ H Q=>∃ v,σ[i]?=some (some v)∧Q v H
def tC (v:V):TE:=fun _ H Q=>Q v H
theorem ae3 {i:Nat}{x:Str}{pos:Pos}(hN:X.N[i]?=some x)(hv:Vis X.env.scope x)(hd:(x == ("__debug__" : Str))=false:=by decide)(hcd:(x == ("__classdict__" : Str))=false:=by decide):PE X (.Name x pos) (tVar i):=by
 intro pins s σ H Q I h
 obtain⟨v,e,h⟩:=h
 obtain⟨m,hn,hl⟩:=I.loc
 obtain⟨u,r,l⟩:=hl i x v hN e hv
 have fin:EP X pins σ Q u s:=⟨v,H,I,r,h⟩
 rcases l with ⟨hk,hm⟩ | ⟨hk,c,hc,hcell⟩
 ·exact wpAny_Name (wpAny_loadName_local I.ok.kind hk hn hm fin) hd
 ·rcases hk with hk | hk
  ·exact wpAny_Name (wpAny_loadName_cell I.ok.kind hk hc hcell fin) hd
  ·exact wpAny_Name (wpAny_loadName_free I.ok.kind hk hc hcell fin hcd) hd
theorem bl3 {i j pos}:PE X (.Constant (.int i) j pos) (tC (.int i)):=fun _ _ _ H _ I h=>wpAny_Constant_int ⟨.int i,H,I.tok _,⟨_,rfl⟩,h⟩
theorem bW4 {b j pos}:PE X (.Constant (.bool b) j pos) (tC (.bl b)):=fun _ _ _ H _ I h=>Constant_bool ⟨.bl b,H,I,rfl,h⟩
theorem bN8 {x j pos}:PE X (.Constant (.str x) j pos) (tC (.str x)):=fun _ _ _ H _ I h=>Calls.Constant_str ⟨.str x,H,I.tok _,⟨_,rfl⟩,h⟩
def Gl (X:Cx)(x:Str):Prop:=X.env.kindOf x=some .globalImplicit
theorem aF1 {E:Value→Shared→Prop}{pins:List (Addr×Obj)}{s:Shared}{σ:St}{H:Hp}{x:Str}{u:Value}{pos:Pos}{Q:Value→Shared→Prop}(I:Inv X pins σ H s)(hg:Gl X x)(hm:X.mg x=some u)(h:Q u s)
  (hd:(x == ("__debug__" : Str))=false:=by decide):wpAny (model X.prog X.w) X.A (eval (.Name x pos) X.env) Q E s :=
 Calls.Name_function_global I.ok.kind hg (Calls.loadGlobal_global (by rw [I.ok.glob];exact I.mod.glob.keeps I.bk) hm h) hd
theorem as7 {E:Value→Shared→Prop}{pins:List (Addr×Obj)}{s:Shared}{σ:St}{H:Hp}{x:Str}{u:Value}{pos:Pos}{Q:Value→Shared→Prop}(I:Inv X pins σ H s)(hg:Gl X x)(hm:X.mg x=none)(hv:bootBuiltins x=some u)(h:Q u s)
  (hn:x≠"__name__":=by decide) (hd:(x == ("__debug__" : Str))=false:=by decide):wpAny (model X.prog X.w) X.A (eval (.Name x pos) X.env) Q E s:=by
 obtain⟨mb,h1,h2⟩:=I.mod.blt
 exact Calls.Name_function_global I.ok.kind hg (Calls.loadGlobal_builtin (by rw [I.ok.glob];exact I.mod.glob.keeps I.bk) hm (by rw [I.ok.blt];exact h1.keeps I.bk) ((h2 x hn).trans hv) h) hd
theorem bE8 {x:Str}{v:V}{u:Value}{pos:Pos}(hg:Gl X x)(hm:X.mg x=some u)(r:RelV v u)(hd:(x == ("__debug__" : Str))=false:=by decide):PE X (.Name x pos) (tC v) :=
 fun _ _ _ H _ I h=>aF1 I hg hm ⟨v,H,I,r,h⟩ hd
theorem bE9 {x:Str}{v:V}{u:Value}{pos:Pos}(hg:Gl X x)(hm:X.mg x=none)(hv:bootBuiltins x=some u)(r:RelV v u)(hn:x≠"__name__":=by decide)(hd:(x == ("__debug__" : Str))=false:=by decide):PE X (.Name x pos) (tC v) :=
 fun _ _ _ H _ I h=>as7 I hg hm hv ⟨v,H,I,r,h⟩ hn hd
variable {a b:Expr}{ta tb:TE}{pos:Pos}
def PC (X:Cx)(op:CmpOp)(a b:Expr)(t:TE):Prop :=
 ∀ (pins:List (Addr×Obj)) (s:Shared) (σ:St) (H:Hp) (Q:VK),Inv X pins σ H s→t σ H Q →
  wpAny (model X.prog X.w) X.A (eval a X.env) (fun v s₁=>wpAny (model X.prog X.w) X.A (eval b X.env) (fun u s₂=>wpAny (model X.prog X.w) X.A (compareOp op v u) (EP X pins σ Q) X.xe s₂) X.xe s₁) X.xe s
theorem aU3 (b:Expr){op:CmpOp}(h:op≠.In)(h2:op≠.NotIn):behindInMarks op b=false:=by
 have e1:(op == CmpOp.In)=false:=by cases op <;> first | rfl | exact absurd rfl h
 have e2:(op == CmpOp.NotIn)=false:=by cases op <;> first | rfl | exact absurd rfl h2
 cases b <;> simp [behindInMarks,e1,e2]
def tB (t:TE):TT:=fun σ H Q=>t σ H fun x H1=>∃ c,x=.bl c∧Q c H1
theorem bN9 {op:CmpOp}{t:TE}(h:PC X op a b t)(h1:behindInMarks op b=false:=by first | exact aU3 _ (by decide) (by decide) | rfl):PE X (.Compare a [op] [b] pos) t:=fun pins s σ H Q I hw=>wpAny_Compare1 (h pins s σ H Q I hw) h1
theorem bO0 {op:CmpOp}{t:TE}(h:PC X op a b t)(h1:behindInMarks op b=false:=by first | exact aU3 _ (by decide) (by decide) | rfl):PT X (.Compare a [op] [b] pos) (tB t):=by
 intro pins s σ H Q I hw
 refine wpAny_isTrue_Compare1 (thn (h pins s σ H _ I hw) fun v s1 h1=>thn h1 fun u s2 h2=>thn h2 fun c s3 ⟨x,H1,I1,r1,q1⟩=>?_) h1
 obtain⟨d,rfl,q⟩:=q1
 cases r1
 exact wpAny_truthy_bool ⟨H1,I1,q⟩
theorem bO1 {e:Expr}{t:TE}(h:PE X e t)(he:∀ whole,isTrue e X.env whole=(do let v ← whole;standAt e.pos;holding [v] (truthy v)):=by intro _;rfl):PT X e (tB t):=by
 intro pins s σ H Q I hw
 refine isTrue_plain (thn (h pins s σ H _ I hw) fun v s1 ⟨x,H1,I1,r1,q1⟩=>?_) (he _)
 obtain⟨d,rfl,q⟩:=q1
 cases r1
 exact wpAny_truthy_bool ⟨H1,I1,q⟩
variable {tA tB':TT}{rest:List Expr}
def tAnd (t u:TT):TT:=fun σ H Q=>t σ H fun c H1=>if c=true then u σ H1 Q else Q false H1
def tNot (t:TT):TT:=fun σ H Q=>t σ H fun c H1=>Q (!c) H1
theorem bF0 (ha:PT X a tA):PW X (.BoolOp .And [a] pos) tA:=by
 intro wh pins s σ H Q I h
 refine isTrue_and (thn (ha pins s σ H Q I h) fun c s1 e=>?_)
 cases c with
 | true=>exact isTrue_and_nil e
 | false=>exact e
theorem bO2 (ha:PT X a tA)(hb:PW X (.BoolOp .And (b::rest) pos) tB'):PW X (.BoolOp .And (a::b::rest) pos) (tAnd tA tB'):=by
 intro wh pins s σ H Q I h
 refine isTrue_and (thn (ha pins s σ H _ I h) fun c s1 ⟨H1,I1,q1⟩=>?_)
 cases c with
 | true=>exact hb wh pins s1 σ H1 Q I1 q1
 | false=>exact⟨H1,I1,q1⟩
theorem bO3 (ha:PT X a tA):PT X (.UnaryOp .Not a pos) (tNot tA):=by
 intro pins s σ H Q I h
 exact isTrue_not (ha pins s σ H (fun c H1=>Q (!c) H1) I h)
def bW5 (ta tb:TE):TE:=fun σ H Q=>ta σ H fun x H1=>∃ c,x=.bl c∧if c=true then tb σ H1 Q else Q (.bl false) H1
def tOrV (ta tb:TE):TE:=fun σ H Q=>ta σ H fun x H1=>∃ c,x=.bl c∧if c=true then Q (.bl true) H1 else tb σ H1 Q
def bW6 (ta:TE):TE:=fun σ H Q=>ta σ H fun x H1=>∃ c,x=.bl c∧Q (.bl (!c)) H1
theorem bO4 {op}{t:TE}(h:PE X a t):PE X (.BoolOp op [a] pos) t:=fun pins s σ H Q I hw=>BoolOp_one (h pins s σ H Q I hw)
theorem bO5 (ha:PE X a ta)(hb:PE X (.BoolOp .And (b::rest) pos) tb):PE X (.BoolOp .And (a::b::rest) pos) (bW5 ta tb):=by
 intro pins s σ H Q I h
 refine BoolOp_and (thn (ha pins s σ H _ I h) fun v s1 ⟨x,H1,I1,r1,q1⟩=>?_)
 obtain⟨c,rfl,q1⟩:=q1
 cases r1
 refine wpAny_truthy_bool ?_
 cases c with
 | true=>exact hb pins s1 σ H1 Q I1 q1
 | false=>exact⟨.bl false,H1,I1,rfl,q1⟩
theorem bW7 (ha:PE X a ta)(hb:PE X (.BoolOp .Or (b::rest) pos) tb):PE X (.BoolOp .Or (a::b::rest) pos) (tOrV ta tb):=by
 intro pins s σ H Q I h
 refine BoolOp_or (thn (ha pins s σ H _ I h) fun v s1 ⟨x,H1,I1,r1,q1⟩=>?_)
 obtain⟨c,rfl,q1⟩:=q1
 cases r1
 refine wpAny_truthy_bool ?_
 cases c with
 | false=>exact hb pins s1 σ H1 Q I1 q1
 | true=>exact⟨.bl true,H1,I1,rfl,q1⟩
theorem bO6 (ha:PE X a ta):PE X (.UnaryOp .Not a pos) (bW6 ta):=by
 intro pins s σ H Q I h
 refine UnaryOp_ (thn (ha pins s σ H _ I h) fun v s1 ⟨x,H1,I1,r1,q1⟩=>?_)
 obtain⟨c,rfl,q1⟩:=q1
 cases r1
 exact not_of (wpAny_truthy_bool ⟨.bl (!c),H1,I1,rfl,q1⟩)
def tIf (t:TT)(ta tb:TE):TE:=fun σ H Q=>t σ H fun c H1=>if c=true then ta σ H1 Q else tb σ H1 Q
theorem bu1 {c:Expr}(hc:PT X c tA)(ha:PE X a ta)(hb:PE X b tb):PE X (.IfExp c a b pos) (tIf tA ta tb):=by
 intro pins s σ H Q I h
 refine wpAny_IfExp (thn (hc pins s σ H _ I h) fun d s1 ⟨H1,I1,q1⟩=>?_)
 cases d with
 | true=>exact ha pins s1 σ H1 Q I1 q1
 | false=>exact hb pins s1 σ H1 Q I1 q1
end
def SqL (K:PySem.W.Frag)(H:Hp)(a:Addr)(xs:List V):Prop :=
 Rd H a (.lst xs) ∨
  ∃ (o:Obj) (its:Array Value) (n:Nat),K.lookup a=some o∧o.cls=.type "list"∧o.dict=none∧o.data=.seq its n∧its.size≤sizeLine∧Vals xs its.toList
def SqT (K:PySem.W.Frag)(H:Hp)(a:Addr)(xs:List V):Prop :=
 Rd H a (.tup xs) ∨
  ∃ (o:Obj) (its:Array Value) (n:Nat),K.lookup a=some o∧o.cls=.type "tuple"∧o.data=.seq its n∧its.size≤sizeLine∧Vals xs its.toList
def absV:Value→Option V
 | .none=>some .non
 | .bool b=>some (.bl b)
 | .int i _=>some (.int i)
 | .str x _=>some (.str x)
 | .bytes b _=>some (.byt b)
 | .float b _=>some (.flt b)
 | .ref a=>some (.ref a)
 | .type n=>some (.ty n)
 | _=>none
theorem RelV.abs {x:V}{u:Value}(r:RelV x u):absV u=some x:=by
 cases x with
 | non=>cases r;rfl
 | bl _=>cases r;rfl
 | int _=>obtain⟨t,rfl⟩:=r;rfl
 | str _=>obtain⟨t,rfl⟩:=r;rfl
 | byt _=>obtain⟨t,rfl⟩:=r;rfl
 | flt _=>obtain⟨t,rfl⟩:=r;rfl
 | ref _=>cases r;rfl
 | ty _=>cases r;rfl
theorem RelV.inj {x y:V}{u:Value}(r:RelV x u)(q:RelV y u):x=y:=Option.some.inj (r.abs.symm.trans q.abs)
theorem Vals.inj:∀ {xs ys:List V} {us:List Value},Vals xs us→Vals ys us→xs=ys
 | _,_,_,.nil,.nil=>rfl
 | _,_,_,.cons r t,.cons r' t'=>by rw [r.inj r',Vals.inj t t']
section
variable {X:Cx}{pins:List (Addr×Obj)}{σ:St}{H:Hp}{s:Shared}{a:Addr}{xs ys:List V}
theorem SqL.of {K:PySem.W.Frag}(h:H a=some (.lst xs)):SqL K H a xs:=.inl (.inl h)
theorem SqT.of {K:PySem.W.Frag}(h:H a=some (.tup xs)):SqT K H a xs:=.inl (.inl h)
theorem Inv.list (I:Inv X pins σ H s)(h:SqL X.K H a xs):∃ its:List Value,Vals xs its∧PlainL s.heap a its.toArray∧xs.length≤sizeLine:=by
 rcases h with h | ⟨o,its,n,hk,hc,hd,hs,hz,r⟩
 ·obtain⟨z,its,n,r,e⟩:=h.ok I.hok
  exact⟨its,r,⟨_,n,e,rfl,rfl,rfl⟩,z⟩
 ·refine⟨its.toList,r,⟨o,n,I.kIn a o hk,hc,hd,by simpa using hs⟩,?_⟩
  have e:=r.length
  simp only [Array.length_toList] at e
  omega
theorem Inv.tuple (I:Inv X pins σ H s)(h:SqT X.K H a xs):∃ its:List Value,Vals xs its∧IsTup s.heap a its.toArray∧xs.length≤sizeLine:=by
 rcases h with h | ⟨o,its,n,hk,hc,hs,hz,r⟩
 ·obtain⟨z,its,r,p⟩:=h.ok I.hok
  exact⟨its,r,p,z⟩
 ·refine⟨its.toList,r,⟨o,I.kIn a o hk,hc,n,by simpa using hs⟩,?_⟩
  have e:=r.length
  simp only [Array.length_toList] at e
  omega
theorem Inv.list_inj (I:Inv X pins σ H s)(h:SqL X.K H a xs)(h':SqL X.K H a ys):xs=ys:=by
 obtain⟨its,r,⟨o,n,e,_,_,d⟩,_⟩:=I.list h
 obtain⟨its',r',⟨o',n',e',_,_,d'⟩,_⟩:=I.list h'
 rw [e] at e';cases e'
 rw [d] at d'
 injection d' with d1 _
 have:its=its':=by simpa using congrArg Array.toList d1
 subst this
 exact r.inj r'
end
section
variable {X:Cx}{st:Stmt}{rest:List Stmt}{t u:TS}{e:Expr}{te:TE}{pos:Pos}
def bW8:TS:=fun D σ H=>D.nx σ H
def tSeq (t u:TS):TS:=fun D σ H=>t { D with nx:=u D } σ H
theorem bF1:PSs X [] bW8:=fun _ _ σ H _ I h=>wpAny_execs_nil ⟨σ,H,I,h⟩
theorem bu2 (h1:PS X st t)(h2:PSs X rest u):PSs X (st::rest) (tSeq t u):=by
 intro pins s σ H D I h
 refine wpAny_execs_cons (thn (h1 pins s σ H { D with nx:=u D } I h) fun f s1 q=>?_)
 cases f with
 | next =>
  obtain⟨σ',H',I',q⟩:=q
  exact h2 pins s1 σ' H' D I' q
 | ret v=>exact q
 | brk=>exact q
 | cont=>exact q
theorem bF2 (h1:PS X st t):PSs X [st] t:=by
 intro pins s σ H D I h
 refine wpAny_execs_cons (thn (h1 pins s σ H D I h) fun f s1 q=>?_)
 cases f with
 | next=>exact wpAny_execs_nil q
 | ret v=>exact q
 | brk=>exact q
 | cont=>exact q
theorem Inv.quiet {pins:List (Addr×Obj)}{σ:St}{H:Hp}{s:Shared}(I:Inv X pins σ H s):interactive X.env=false:=by simp [interactive,I.ok.kind]
def bW9 (te:TE):TS:=fun D σ H=>te σ H fun _ H1=>D.nx σ H1
theorem bc2 (he:PE X e te)(hs:swapsWith e none pos.line X.env=pure false:=by rfl):PS X (.Expr e pos) (bW9 te):=by
 intro pins s σ H D I h
 exact wpAny_Expr_any (thn (he pins s σ H _ I h) fun v s1 ⟨x,H1,I1,r1,q1⟩=>⟨σ,H1,I1,q1⟩) I.quiet hs
def tRet (te:TE):TS:=fun D σ H=>te σ H D.rt
theorem bO7 (he:PE X e te):PS X (.Return (some e) pos) (tRet te):=by
 intro pins s σ H D I h
 exact wpAny_Return_some (thn (he pins s σ H _ I h) fun v s1 ⟨x,H1,I1,r1,q1⟩=>⟨x,σ,H1,I1,r1,q1⟩)
def tIfS (c:TT)(t u:TS):TS:=fun D σ H=>c σ H fun b H1=>if b=true then t D σ H1 else u D σ H1
theorem bX0 {c:Expr}{a b:List Stmt}{tc:TT}(hc:PT X c tc)(ha:PSs X a t)(hb:PSs X b u):PS X (.If c a b pos) (tIfS tc t u):=by
 intro pins s σ H D I h
 refine wpAny_If (thn (hc pins s σ H _ I h) fun d s1 ⟨H1,I1,q1⟩=>?_)
 cases d with
 | true=>exact ha pins s1 σ H1 D I1 q1
 | false=>exact hb pins s1 σ H1 D I1 q1
end
abbrev TG:=V→St→Hp→(St→Hp→Prop)→Prop
abbrev TGs:=List V→St→Hp→(St→Hp→Prop)→Prop
def PG (X:Cx)(target:Expr)(t:TG):Prop :=
 ∀ (pins:List (Addr×Obj)) (s:Shared) (σ:St) (H:Hp) (v:V) (u:Value) (Q:St→Hp→Prop),Inv X pins σ H s→RelV v u→t v σ H Q →
  wpAny (model X.prog X.w) X.A (assign target X.env u) (fun _ s'=>∃ σ' H',Inv X pins σ' H' s'∧Q σ' H') X.xe s
def PGs (X:Cx)(ts:List Expr)(t:TGs):Prop :=
 ∀ (pins:List (Addr×Obj)) (s:Shared) (σ:St) (H:Hp) (vs:List V) (us:List Value) (Q:St→Hp→Prop),Inv X pins σ H s→Vals vs us→t vs σ H Q →
  wpAny (model X.prog X.w) X.A (assignInOrder ((assignEach ts X.env).map (·.2)) us) (fun _ s'=>∃ σ' H',Inv X pins σ' H' s'∧Q σ' H') X.xe s
abbrev TSet:=V→V→V→Hp→(Hp→Prop)→Prop
def PSet (X:Cx)(t:TSet):Prop :=
 ∀ (pins:List (Addr×Obj)) (s:Shared) (σ:St) (H:Hp) (o i v:V) (ov iv u:Value) (Q:Hp→Prop),Inv X pins σ H s→RelV o ov→RelV i iv→RelV v u→t o i v H Q →
  wpAny (model X.prog X.w) X.A (setItem ov iv u) (fun _ s'=>∃ H',Inv X pins σ H' s'∧Q H') X.xe s
abbrev TIp:=V→V→Hp→VK→Prop
def PIp (X:Cx)(op:Operator)(t:TIp):Prop :=
 ∀ (pins:List (Addr×Obj)) (s:Shared) (σ:St) (H:Hp) (x y:V) (v u:Value) (Q:VK),Inv X pins σ H s→RelV x v→RelV y u→t x y H Q →
  wpAny (model X.prog X.w) X.A (inplaceOp op v u) (EP X pins σ Q) X.xe s
section
variable {X:Cx}{pos:Pos}
def bh4 (i:Nat):TG:=fun v σ H Q=>Q (σ.set i (some v)) H
theorem bF3 {i:Nat}{x:Str}(hN:X.N.Nodup)(hi:X.N[i]?=some x)(hx:Loc X.env.scope x)(hf:X.fn x=true∨X.env.scope.names.lookup x=some .local:=by first | exact .inl rfl | exact .inr rfl | assumption):PG X (.Name x pos) (bh4 i):=by
 intro pins s σ H v u Q I r h
 exact wpAny_assign_Name (ay1 I hN hi hx r (fun s' I'=>⟨_,H,I',h⟩) hf)
def gNil:TGs:=fun vs σ H Q=>vs=[]∧Q σ H
def bX1 (t:TG)(u:TGs):TGs:=fun vs σ H Q=>∃ v r,vs=v::r∧t v σ H fun σ' H'=>u r σ' H' Q
theorem bF4:PGs X [] gNil:=by
 intro pins s σ H vs us Q I r h
 obtain⟨e,h⟩:=h
 subst e
 cases r
 exact assignInOrder_nil ⟨σ,H,I,h⟩
theorem bu3 {e:Expr}{es:List Expr}{t:TG}{u:TGs}(h1:PG X e t)(h2:PGs X es u)
  (hs:(assignEach (e::es) X.env).map (·.2)=assign e X.env::(assignEach es X.env).map (·.2):=by rfl):PGs X (e::es) (bX1 t u):=by
 intro pins s σ H vs us Q I r h
 obtain⟨v,vr,e1,h⟩:=h
 subst e1
 cases r with
 | cons r rr =>
  rw [hs]
  refine assignInOrder_cons (thn (h1 pins s σ H _ _ _ I r h) fun _ s1 ⟨σ1,H1,I1,q1⟩=>?_)
  exact h2 pins s1 σ1 H1 _ _ Q I1 rr q1
def gTup (K:PySem.W.Frag)(n:Nat)(t:TGs):TG:=fun v σ H Q=>∃ a xs,v=.ref a∧SqT K H a xs∧xs.length=n∧t xs σ H Q
theorem bO8 {es:List Expr}{k:Nat}{t:TGs}{n:Nat}(hc:X.calm=true)(h:PGs X es t)
  (hn:(assignEach es X.env).length=n:=by rfl) (hst:(assignEach es X.env).findIdx? (·.1)=none:=by rfl):PG X (.Tuple es k pos) (gTup X.K n t):=by
 intro pins s σ H v u Q I r hw
 obtain⟨a,xs,e1,hq,hl,hw⟩:=hw
 subst e1
 cases r
 obtain⟨its,rv,ht,hz⟩:=I.tuple hq
 refine assign_Tuple_tuple (I.ok.hd hc) ht (by simp [hn,← hl,rv.length]) hst fun h' hx=>?_
 have I1:Inv X pins σ H { s with heap:=h' }:=I.kept (t':=s.toks) fun b o e=>hx b o (ne_of_lt (Heap.lt_size e)) e
 exact h pins _ σ H xs _ Q I1 (by simpa using rv) hw
def gSub (to ti:TE)(t:TSet):TG:=fun v σ H Q=>to σ H fun o H1=>ti σ H1 fun i H2=>t o i v H2 fun H3=>Q σ H3
theorem bO9 {o i:Expr}{to ti:TE}{t:TSet}(ho:PE X o to)(hi:PE X i ti)(hs:PSet X t)
  (ha:∀ v,assign (.Subscript o i pos) X.env v=(do
   let ov ← holding [v] (eval o X.env)
   let iv ← holding [v,ov] (eval i X.env)
   standAt pos
   holding [v,ov,iv] (setItem ov iv v)
   release [v,ov,iv] []):=by intro _;rfl):PG X (.Subscript o i pos) (gSub to ti t):=by
 intro pins s σ H v u Q I r h
 rw [ha]
 refine wpAny_bind (wpAny_holding (thn (ho pins s σ H _ I h) fun ov s1 ⟨x,H1,I1,r1,q1⟩=>?_))
 refine wpAny_bind (wpAny_holding (thn (hi pins s1 σ H1 _ I1 q1) fun iv s2 ⟨y,H2,I2,r2,q2⟩=>?_))
 refine wpAny_bind (wpAny_standAt (wpAny_bind (wpAny_holding (thn (hs pins s2 σ H2 x y v ov iv u _ I2 r1 r2 r q2) fun _ s3 ⟨H3,I3,q3⟩=>?_))))
 exact wpAny_release ⟨σ,H3,I3,q3⟩
def tAsg (te:TE)(g:TG):TS:=fun D σ H=>te σ H fun x H1=>g x σ H1 D.nx
theorem bl4 {tg e:Expr}{te:TE}{g:TG}(he:PE X e te)(hg:PG X tg g)(hs:swapsWithSole [tg] e pos.line X.env=pure false:=by rfl)(hw:swappedStores [tg] e X.env=pure none:=by rfl)
  (h1:(assignEach [tg] X.env).map (·.2)=[assign tg X.env]:=by rfl):PS X (.Assign [tg] e pos) (tAsg te g):=by
 intro pins s σ H D I h
 refine wpAny_Assign_stores (thn (he pins s σ H _ I h) fun v s1 ⟨x,H1,I1,r1,q1⟩=>?_) hs hw
 rw [h1]
 exact thn (hg pins s1 σ H1 x v _ I1 r1 q1) fun _ s2 q=>q
theorem bP0 {i:Nat}{x:Str}{e:Expr}{te:TE}{pos':Pos}(hN:X.N.Nodup)(hi:X.N[i]?=some x)(hx:Loc X.env.scope x)(he:PE X e te)(hs:swapsWith e (some (.Name x pos')) pos.line X.env=pure false:=by rfl)(hf:X.fn x=true∨X.env.scope.names.lookup x=some .local:=by first | exact .inl rfl | exact .inr rfl | assumption) :
  PS X (.Assign [.Name x pos'] e pos) (tAsg te (bh4 i)):=by
 intro pins s σ H D I h
 refine wpAny_Assign_Name (thn (he pins s σ H _ I h) fun v s1 ⟨y,H1,I1,r1,q1⟩=>?_) hs
 exact ay1 I1 hN hi hx r1 (fun s2 I2=>⟨_,H1,I2,q1⟩) hf
def tPar (i j:Nat)(ta:TA):TS:=fun D σ H=>ta σ H fun vs H1=>∃ v w,vs=[v,w]∧D.nx ((σ.set i (some v)).set j (some w)) H1
theorem bP1 {i j:Nat}{x y:Str}{a b:Expr}{ta:TA}{px py pt:Pos}{kt k2 pt2}(hc:X.calm=true)(hN:X.N.Nodup)(hi:X.N[i]?=some x)(hj:X.N[j]?=some y)(hij:i≠j)
  (hx:X.env.scope.names.lookup x=some .local) (hy:X.env.scope.names.lookup y=some .local) (ha:PA X [a,b] ta)
  (hw:swappedStores [.Tuple [.Name x px,.Name y py] kt pt] (.Tuple [a,b] k2 pt2) X.env=pure (some [x,y]))
  (hs:swapsWithSole [.Tuple [.Name x px,.Name y py] kt pt] (.Tuple [a,b] k2 pt2) pos.line X.env=pure false:=by rfl) :
  PS X (.Assign [.Tuple [.Name x px,.Name y py] kt pt] (.Tuple [a,b] k2 pt2) pos) (tPar i j ta):=by
 intro pins s σ H D I h
 rw [exec_Assign_arm]
 refine wpAny_bind (wpAny_standAt ?_)
 rw [hs]
 refine wpAny_bind (wpAny_pure ?_)
 rw [if_neg (by decide)]
 refine wpAny_bind (Tuple_ (thn (ha _ pins s σ H _ I h) fun us s1 ⟨vs,H1,I1,r1,q1⟩=>?_))
 obtain⟨v,w,e1,q1⟩:=q1
 subst e1
 obtain⟨u1,u2,rfl,rv,rw'⟩:∃ u1 u2,us=[u1,u2]∧RelV v u1∧RelV w u2:=by
  cases r1 with
  | cons p q =>
   cases q with
   | cons p' q' =>
    cases q'
    exact⟨_,_,rfl,p,p'⟩
 refine wpAny_newObj_type ?_ (by show 2≤sizeLine;decide)
 have I2:Inv X pins σ H1 { s1 with heap:=s1.heap.push { cls:=.type "tuple",data:=.seq [u1,u2].toArray } }:=I1.kept (t':=s1.toks) fun b o e=>Heap.get?_push_of_some _ e
 rw [hw]
 refine wpAny_bind (wpAny_pure ?_)
 show wpAny (model X.prog X.w) X.A (do rule "assign.swapped-stores";let items ← unpackItems (.ref s1.heap.objs.size) 2 none;assignInOrder [fun v=>bindName X.env y v,fun v=>bindName X.env x v] items.reverse;pure Flow.next) _ _ _
 refine wpAny_bind (wpAny_rule (wpAny_bind (unpackItems_tuple (items:=#[u1,u2]) (I.ok.hd hc) (IsTup.new s1.heap _) fun h' hx'=>?_)))
 have I3:=I2.kept (h':=h') (t':=s1.toks) fun b o e=>hx' b o (ne_of_lt (Heap.lt_size e)) e
 show wpAny _ _ (assignInOrder [fun v=>bindName X.env y v,fun v=>bindName X.env x v] [u2,u1] >>= fun _=>pure Flow.next) _ _ _
 refine wpAny_bind (assignInOrder_cons (wpAny_bindName (ay1 I3 hN hj (.inl hy) rw' (fun s2 I4=>?_) (.inr hy))))
 refine assignInOrder_cons (wpAny_bindName (ay1 I4 hN hi (.inl hx) rv (fun s3 I5=>assignInOrder_nil (wpAny_pure ?_)) (.inr hx)))
 rw [List.set_comm _ _ (Ne.symm hij)] at I5
 exact⟨_,H1,I5,q1⟩
def bX2 (to ti te:TE)(tget:V→V→Hp→VK→Prop)(tip:TIp)(tset:TSet):TS:=fun D σ H=>to σ H fun o H1=>ti σ H1 fun i H2=>tget o i H2 fun x H3=>te σ H3 fun y H4=>tip x y H4 fun z H5=>tset o i z H5 fun H6=>D.nx σ H6
def PGet (X:Cx)(t:V→V→Hp→VK→Prop):Prop :=
 ∀ (pins:List (Addr×Obj)) (s:Shared) (σ:St) (H:Hp) (o i:V) (ov iv:Value) (Q:VK),Inv X pins σ H s→RelV o ov→RelV i iv→t o i H Q →
  wpAny (model X.prog X.w) X.A (getItem ov iv) (EP X pins σ Q) X.xe s
theorem bF5 {o i e:Expr}{to ti te:TE}{tget:V→V→Hp→VK→Prop}{tip:TIp}{tset:TSet}{op:Operator}{tpos:Pos}(ho:PE X o to)(hi:PE X i ti)(hg:PGet X tget)(he:PE X e te)(hp:PIp X op tip)(hs:PSet X tset)
  (ha:∀ ov iv new,augStore i ov iv new=(do holding [new,ov,iv] (setItem ov iv new);release [new,ov,iv] [];pure .next):=by intros;rfl):PS X (.AugAssign (.Subscript o i tpos) op e pos) (bX2 to ti te tget tip tset):=by
 intro pins s σ H D I h
 refine wpAny_AugAssign_SubscriptAny (thn (ho pins s σ H _ I h) fun ov s1 ⟨x1,H1,I1,r1,q1⟩=>?_) ha
 refine thn (hi pins s1 σ H1 _ I1 q1) fun iv s2 ⟨x2,H2,I2,r2,q2⟩=>?_
 refine thn (hg pins s2 σ H2 x1 x2 ov iv _ I2 r1 r2 q2) fun old s3 ⟨x3,H3,I3,r3,q3⟩=>?_
 refine thn (he pins s3 σ H3 _ I3 q3) fun v s4 ⟨x4,H4,I4,r4,q4⟩=>?_
 refine thn (hp pins s4 σ H4 x3 x4 old v _ I4 r3 r4 q4) fun new s5 ⟨x5,H5,I5,r5,q5⟩=>?_
 exact thn (hs pins s5 σ H5 x1 x2 x5 ov iv new _ I5 r1 r2 r5 q5) fun _ s6 ⟨H6,I6,q6⟩=>⟨σ,H6,I6,q6⟩
def ipI (f:Int→Int→Int):TIp:=fun x y H Q=>∃ i j,x=.int i∧y=.int j∧Q (.int (f i j)) H
theorem bP2:PIp X .Add (ipI fun i j=>i+j):=by
 intro pins s σ H x y v u Q I r1 r2 h
 obtain⟨i,j,e1,e2,q⟩:=h
 subst e1;subst e2
 obtain⟨t,rfl⟩:=r1
 obtain⟨t',rfl⟩:=r2
 exact iadd_int ⟨.int _,H,I.tok _,⟨_,rfl⟩,q⟩
end
section
variable {X:Cx}{pos:Pos}
def bP3 (c:TT)(tb:TS):TS:=fun D σ H=>∃ W:Nat→St→Hp→Prop,(∃ m,W m σ H)∧∀ m σ H,W m σ H →
 c σ H fun b H1=>if b=true then ∃ N:St→Hp→Prop,(∀ σ' H',N σ' H'→∃ m',m' < m∧W m' σ' H')∧tb { D with nx:=N,ct:=N,bk:=D.nx } σ H1 else D.nx σ H1
theorem bu4 {c:Expr}{body:List Stmt}{tc:TT}{tb:TS}(hp:PassesOwn (model X.prog X.w) X.A X.env X.xe)(hc:PT X c tc)(hb:PSs X body tb):PS X (.While c body [] pos) (bP3 tc tb):=by
 intro pins s σ H D I h
 obtain⟨W,⟨m0,w0⟩,turn⟩:=h
 refine wpAny_While (codeAny_whileLoop (fun n s'=>∃ σ' H',Inv X pins σ' H' s'∧W n σ' H') ?_ m0 ⟨σ,H,I,w0⟩)
 rintro n s1 ⟨σ1,H1,I1,w1⟩
 refine wpAny_passesOwn hp (thn (hc pins s1 σ1 H1 _ I1 (turn n σ1 H1 w1)) fun b s2 ⟨H2,I2,q2⟩=>?_)
 cases b with
 | true =>
  obtain⟨N,hN,q2⟩:=q2
  rw [if_pos rfl]
  refine wpAny_passesOwn hp (thn (hb pins s2 σ1 H2 _ I2 q2) fun f s3 q3=>?_)
  cases f with
  | next =>
   obtain⟨σ3,H3,I3,n3⟩:=q3
   obtain⟨m',hm,w3⟩:=hN σ3 H3 n3
   exact⟨m',hm,σ3,H3,I3,w3⟩
  | cont =>
   obtain⟨σ3,H3,I3,n3⟩:=q3
   obtain⟨m',hm,w3⟩:=hN σ3 H3 n3
   exact⟨m',hm,σ3,H3,I3,w3⟩
  | brk=>exact q3
  | ret v=>exact q3
 | false =>
  rw [if_neg Bool.false_ne_true]
  exact wpAny_execs_nil ⟨σ1,H2,I2,q2⟩
end
structure It where
 go:Nat→Hp→Prop
 yld:Nat→Hp→V→Hp→Prop
 stop:Nat→Hp→Prop
def FpOk (X:Cx)(pins:List (Addr×Obj))(H:Hp)(b:Addr):Prop :=
 H b=none∧b≠X.env.locals∧b ∉ X.fs∧(b∈X.ex∨X.s₀.heap.objs.size≤b)∧(∀ x c,X.env.cells.lookup x=some c→c≠b)∧∀ p∈X.pn++pins,p.1≠b
theorem Inv.fpOk {X:Cx}{pins:List (Addr×Obj)}{σ:St}{H H':Hp}{s:Shared}{b:Addr}(I:Inv X pins σ H s)(hb:s.heap.objs.size≤b)(hn:H' b=none):FpOk X pins H' b:=by
 refine⟨hn,ne_of_gt (lt_of_lt_of_le I.lt hb),I.nofs hb,.inr (le_trans I.sz hb),fun x c e z=>?_,fun p hp z=>?_⟩
 ·obtain⟨v,q⟩:=I.cell x c e
  exact absurd (lt_of_lt_of_le q.lt (by rw [z];exact hb)) (lt_irrefl _)
 ·exact absurd (lt_of_lt_of_le (Heap.lt_size (I.pin p hp).1) (by rw [z];exact hb)) (lt_irrefl _)
structure Turn (P:Program) (w:World) (K:PySem.W.Frag) (tg:Expr) (J:It) (fp:List Addr) (it:Addr) (tn:Nat→Heap→Prop):Prop where
 mem:it∈fp
 obj:∀ i h,tn i h→∀ b∈fp,∃ o,h.get? b=some o∧∀ v,o.data≠.cell v
 keep:∀ i h h',tn i h→(∀ b∈fp,∀ o,h.get? b=some o→h'.get? b=some o)→tn i h'
 item:∀ (X:Cx),X.prog=P→X.w=w→X.K=K→X.calm=true→∀ (i:Nat) (pins:List (Addr×Obj)) (s:Shared) (σ:St) (H:Hp) (E:Value→Shared→Prop),Inv X pins σ H s→(∀ b∈fp,FpOk X pins H b)→tn i s.heap→J.go i H →
  wpAny (model P w) X.A (pyNext (.ref it)) (fun r s1=>∃ u,r=some u ∧
   wpAny (model P w) X.A (letOwnedTupleGo tg (.ref it) u) (fun _ s2=>∃ x H',Inv X pins σ H' s2∧RelV x u∧J.yld i H x H'∧tn (i+1) s2.heap∧∀ b∈fp,H' b=none) E s1) E s
 done:∀ (X:Cx),X.prog=P→X.w=w→X.K=K→X.calm=true→∀ (i:Nat) (pins:List (Addr×Obj)) (s:Shared) (σ:St) (H:Hp) (E:Value→Shared→Prop),Inv X pins σ H s→(∀ b∈fp,FpOk X pins H b)→tn i s.heap→J.stop i H →
  wpAny (model P w) X.A (pyNext (.ref it)) (fun r s1=>r=none∧Inv X pins σ H s1) E s
 self:∀ (A:Around) (i:Nat) (s:Shared) (Q:Value→Shared→Prop) (E:Value→Shared→Prop),tn i s.heap→Q (.ref it) s→wpAny (model P w) A (pyIter (.ref it)) Q E s
abbrev TI:=St→Hp→(It→Hp→Prop)→Prop
def PIE (X:Cx)(pins:List (Addr×Obj))(σ:St)(tg:Expr)(R:It→Hp→Prop)(itv:Value)(s2:Shared):Prop :=
 ∃ (it:Addr) (fp:List Addr) (tn:Nat→Heap→Prop) (J:It) (H':Hp),itv=.ref it∧Inv X pins σ H' s2∧Turn X.prog X.w X.K tg J fp it tn∧tn 0 s2.heap∧(∀ b∈fp,FpOk X pins H' b)∧R J H'
def PI (X:Cx)(tg iter:Expr)(wi:TI):Prop :=
 ∀ (pins:List (Addr×Obj)) (s:Shared) (σ:St) (H:Hp) (R:It→Hp→Prop),Inv X pins σ H s→wi σ H R →
  wpAny (model X.prog X.w) X.A (eval iter X.env) (fun v s1=>wpAny (model X.prog X.w) X.A (pyIter v) (PIE X pins σ tg R) X.xe s1) X.xe s
theorem bB8 {M:Model}{A:Around}{E:Value→Shared→Prop}{s:Shared}{tg:Expr}{it:Addr}{u:Value}{o:Obj}{n:String}{vs:Array Value}{Q:Unit→Shared→Prop}(ho:s.heap.get? it=some o)(hc:o.cls=.type n)(hd:o.data=.fields vs)
    (hn:["enumerate","zip","dict_itemiterator","dict_reverseitemiterator","odict_iterator","itertools.zip_longest","itertools.pairwise"].contains n=false) (hQ:Q () s):wpAny M A (letOwnedTupleGo tg (.ref it) u) Q E s:=by
  unfold letOwnedTupleGo
  cases tg <;> first
    | exact wpAny_pure hQ
    | (cases u <;> first
        | exact wpAny_pure hQ
        | (refine wpAny_bind (wpAny_load ho ?_)
           rw [hc,hd]
           show wpAny M A (if (["enumerate","zip","dict_itemiterator","dict_reverseitemiterator","odict_iterator","itertools.zip_longest","itertools.pairwise"].contains n && vs[0]? == some (rawInt _))=true then _ else _) Q E s
           rw [if_neg (by intro h;rw [hn,Bool.false_and] at h;cases h)]
           exact wpAny_pure hQ))
def Itl (K:PySem.W.Frag)(a:Addr):It :=
 ⟨fun i H=>∃ xs x,SqL K H a xs∧xs[i]?=some x,fun i H x H'=>H'=H∧∀ xs,SqL K H a xs→xs[i]?=some x,fun i H=>∃ xs,SqL K H a xs∧xs.length≤i⟩
def Itr (lo:Int)(n:Nat):It:=⟨fun i _=>i < n,fun i H x H'=>H'=H∧x=.int (lo+i),fun i _=>n≤i⟩
theorem bl5 {P:Program}{w:World}{K:PySem.W.Frag}{tg:Expr}(a it:Addr):Turn P w K tg (Itl K a) [it] it (fun i h=>h.IsListIter it a i) where
 mem:=by simp
 obj:=fun i h st b hb=>by
  have e:b=it:=by simpa using hb
  subst e
  obtain⟨o,e,c,d⟩:=st
  exact⟨o,e,fun v z=>by rw [d] at z;cases z⟩
 keep:=fun i h h' st k=>st.at fun o e=>k it (by simp) o e
 item:=by
  intro X hP hw hK hc i pins s σ H E I hf st hg
  subst hP hw hK
  obtain⟨xs,x,hq,hx⟩:=hg
  obtain⟨its,rv,p,hz⟩:=I.list hq
  obtain⟨u,hu,ru⟩:=rv.get hx
  obtain⟨f0,f1,f2,f3,f4,f5⟩:=hf it (by simp)
  refine wpAny_pyNext_list_item st p.isList (x:=u) (by simpa using hu) fun h' st' sb=>?_
  have I1:Inv X pins σ H { s with heap:=h' }:=I.turned (t':=s.toks) (fun b o hb e=>(sb.2 b hb).trans e) f0 f1 f3 f4 f5
  obtain⟨o,e,c,d⟩:=id st'
  exact⟨u,rfl,bB8 (s:={ s with heap:=h' }) e c d (by decide) ⟨x,H,I1,ru,⟨rfl,fun ys hy=>by rw [I.list_inj hy hq];exact hx⟩,st',fun b hb=>(hf b hb).1⟩⟩
 done:=by
  intro X hP hw hK hc i pins s σ H E I hf st hg
  subst hP hw hK
  obtain⟨xs,hq,hx⟩:=hg
  obtain⟨its,rv,p,hz⟩:=I.list hq
  obtain⟨f0,f1,f2,f3,f4,f5⟩:=hf it (by simp)
  have hl:=rv.length
  exact wpAny_pyNext_list_end (I.ok.hd hc) st p.isList (by simp;omega) fun h' eb=>⟨rfl,I.turned (t':=s.toks) (fun b o hb e=>eb b o hb e) f0 f1 f3 f4 f5⟩
 self:=fun _ _ _ _ _ st h=>wpAny_pyIter_listiter st h
theorem bh5 {P:Program}{w:World}{K:PySem.W.Frag}{tg:Expr}(it:Addr)(lo:Int)(n:Nat):Turn P w K tg (Itr lo n) [it] it (fun i h=>IsRangeIter h it (lo+(i:Nat)*1) ((n:Int) - (i:Nat)) 1) where
 mem:=by simp
 obj:=fun i h st b hb=>by
  have e:b=it:=by simpa using hb
  subst e
  exact⟨_,st,fun v z=>by
   have z':Data.fields _=Data.cell v:=z
   cases z'⟩
 keep:=fun i h h' st k=>k it (by simp) _ st
 item:=by
  intro X hP hw hK hc i pins s σ H E I hf st hg
  subst hP hw hK
  obtain⟨f0,f1,f2,f3,f4,f5⟩:=hf it (by simp)
  have W:=Walks.range (prog:=X.prog) (w:=X.w) (I.ok.hd hc) it lo 1 n
  refine W.item i s _ _ hg st fun v h' tk hv st' kk=>?_
  obtain⟨t,rfl⟩:=hv
  have I1:Inv X pins σ H { s with heap:=h',toks:=tk }:=I.turned (fun b o hb e=>kk b o (by simpa using hb) e) f0 f1 f3 f4 f5
  refine⟨_,rfl,bB8 (s:={ s with heap:=h',toks:=tk }) (n:="range_iterator") st' rfl rfl (by decide) ⟨.int (lo+i),H,I1,⟨t,?_⟩,⟨rfl,rfl⟩,st',fun b hb=>(hf b hb).1⟩⟩
  rw [mul_one]
 done:=by
  intro X hP hw hK hc i pins s σ H E I hf st hg
  subst hP hw hK
  obtain⟨f0,f1,f2,f3,f4,f5⟩:=hf it (by simp)
  exact wpAny_pyNext_range_end (I.ok.hd hc) st (by have:n≤i:=hg;omega) fun h' eb=>⟨rfl,I.turned (t':=s.toks) (fun b o hb e=>eb b o hb e) f0 f1 f3 f4 f5⟩
 self:=fun _ _ _ _ _ st h=>wpAny_pyIter_rangeiter st h
section
variable {X:Cx}{tg:Expr}
def bX3 (K:PySem.W.Frag)(tl:TE):TI:=fun σ H R=>tl σ H fun x H1=>∃ a,x=.ref a∧(∃ xs,SqL K H1 a xs)∧R (Itl K a) H1
theorem bc3 {l:Expr}{tl:TE}(hl:PE X l tl):PI X tg l (bX3 X.K tl):=by
 intro pins s σ H R I h
 refine thn (hl pins s σ H _ I h) fun v s1 ⟨x,H1,I1,r1,q1⟩=>?_
 obtain⟨a,e,⟨xs,hq⟩,q⟩:=q1
 subst e
 cases r1
 obtain⟨its,rv,p,hz⟩:=I1.list hq
 refine wpAny_pyIter_list p.isList ?_
 refine⟨s1.heap.objs.size,[s1.heap.objs.size],_,_,H1,rfl,I1.kept (t':=s1.toks) fun b o e=>Heap.get?_push_of_some _ e,bl5 a _,⟨_,Heap.get?_push_size _ rfl,rfl,rfl⟩,fun b hb=>?_,q⟩
 have e:b=s1.heap.objs.size:=by simpa using hb
 subst e
 exact I1.fpOk (le_refl _) (I1.hok.fresh (le_refl _))
theorem aU4 {pins:List (Addr×Obj)}{σ:St}{H:Hp}{s:Shared}{R:It→Hp→Prop}{E:Value→Shared→Prop}{lo hi:Int}{t u v:Tok}{tk:Nat}(I:Inv X pins σ H s)(h1:-(2 ^ 62)≤lo)(h2:lo < 2 ^ 62)(h3:-(2 ^ 62)≤hi)(h4:hi < 2 ^ 62)
  (q:R (Itr lo (hi - lo).toNat) H):wpAny (model X.prog X.w) X.A (pyIter (.ref s.heap.objs.size)) (PIE X pins σ tg R) E { s with heap:=s.heap.push { cls:=.type "range",data:=.fields #[.int lo t,.int hi u,.int 1 v] },toks:=tk }:=by
 refine wpAny_pyIter_range (IsRange.new ..) (small_one h1 h2 h3 h4) ?_
 have I1:Inv X pins σ H { s with heap:=s.heap.push { cls:=.type "range",data:=.fields #[.int lo t,.int hi u,.int 1 v] },toks:=tk }:=I.kept fun b o e=>Heap.get?_push_of_some _ e
 refine⟨(s.heap.push { cls:=.type "range",data:=.fields #[.int lo t,.int hi u,.int 1 v] }).objs.size,[(s.heap.push { cls:=.type "range",data:=.fields #[.int lo t,.int hi u,.int 1 v] }).objs.size],_,_,H,rfl,
  I1.kept (t':=tk) fun b o e=>Heap.get?_push_of_some _ e,bh5 _ lo (hi - lo).toNat,?_,fun b hb=>?_,q⟩
 ·have e1:lo+((0:Nat):Int)*1=lo:=by simp
  have e2:(((hi - lo).toNat:Nat):Int) - ((0:Nat):Int)=Builtin.Range.rangeSize lo hi 1:=by rw [rangeSize_one];split <;> omega
  show IsRangeIter _ _ (lo+((0:Nat):Int)*1) ((((hi - lo).toNat:Nat):Int) - ((0:Nat):Int)) 1
  rw [e1,e2]
  exact Heap.get?_push_size _ rfl
 ·have e:b=(s.heap.push { cls:=.type "range",data:=.fields #[.int lo t,.int hi u,.int 1 v] }).objs.size:=by simpa using hb
  subst e
  exact I1.fpOk (le_refl _) (I1.hok.fresh (le_refl _))
def bX4 (ta:TA):TI:=fun σ H R=>ta σ H fun vs H1=>∃ j:Int,vs=[.int j]∧-(2 ^ 62)≤j∧j < 2 ^ 62∧R (Itr 0 j.toNat) H1
def bX5 (ta:TA):TI:=fun σ H R=>ta σ H fun vs H1=>∃ i j:Int,vs=[.int i,.int j]∧(-(2 ^ 62)≤i∧i < 2 ^ 62∧-(2 ^ 62)≤j∧j < 2 ^ 62)∧R (Itr i (j - i).toNat) H1
theorem bl6 {a:Expr}{ta:TA}{p pos:Pos}(hg:Gl X "range")(hm:X.mg "range"=none)(ha:PA X [a] ta)(hs:starEach [a] X.env=[(false,eval a X.env)]:=by rfl):PI X tg (.Call (.Name "range" p) [a] [] pos) (bX4 ta):=by
 intro pins s σ H R I h
 refine Call_ (as7 I hg hm boot_range (PyProof.Rows.callWith_type1 (thn (ha pos pins s σ H _ I h) fun us s1 ⟨vs,H1,I1,r1,q1⟩=>?_) hs rfl))
 obtain⟨j,e,q1,q2,q⟩:=q1
 subst e
 cases r1 with
 | cons r rr =>
  cases rr
  obtain⟨t,rfl⟩:=r
  exact call_range_1 (aU4 I1 (by omega) (by omega) q1 q2 (by simpa using q))
theorem bl7 {a b:Expr}{ta:TA}{p pos:Pos}(hg:Gl X "range")(hm:X.mg "range"=none)(ha:PA X [a,b] ta)(hs:starEach [a,b] X.env=[(false,eval a X.env),(false,eval b X.env)]:=by rfl)(hs2:starEach [b] X.env=[(false,eval b X.env)]:=by rfl) :
  PI X tg (.Call (.Name "range" p) [a,b] [] pos) (bX5 ta):=by
 intro pins s σ H R I h
 refine Call_ (as7 I hg hm boot_range (PyProof.Rows.callWith_type1 (thn (ha pos pins s σ H _ I h) fun us s1 ⟨vs,H1,I1,r1,q1⟩=>?_) (by rw [hs,hs2]) (by rw [hs2];rfl)))
 obtain⟨i,j,e,⟨q1,q2,q3,q4⟩,q⟩:=q1
 subst e
 cases r1 with
 | cons r rr =>
  cases rr with
  | cons r' rr =>
   cases rr
   obtain⟨t,rfl⟩:=r
   obtain⟨t',rfl⟩:=r'
   exact call_range_2 (aU4 I1 q1 q2 q3 q4 q)
def tFor (wi:TI)(g:TG)(tb:TS):TS:=fun D σ H=>wi σ H fun J H1=>∃ W:Nat→Nat→St→Hp→Prop,(∃ m,W 0 m σ H1)∧∀ i m σ H,W i m σ H →
 (J.stop i H∧D.nx σ H)∨(J.go i H∧∃ N:St→Hp→Prop,(∀ σ' H',N σ' H'→∃ m',m' < m∧W (i+1) m' σ' H')∧∀ x H',J.yld i H x H'→g x σ H' fun σ2 H2=>tb { D with nx:=N,ct:=N,bk:=D.nx } σ2 H2)
def av7 (fp:List Addr)(h:Heap):List (Addr×Obj):=fp.filterMap fun b=>(h.get? b).map fun o=>(b,o)
theorem aj5 {fp:List Addr}{h:Heap}{b:Addr}{o:Obj}(hb:b∈fp)(e:h.get? b=some o):(b,o)∈av7 fp h:=mem_filterMap.mpr ⟨b,hb,by rw [e];rfl⟩
theorem bl8 {fp:List Addr}{h:Heap}{p:Addr×Obj}(hp:p∈av7 fp h):p.1∈fp∧h.get? p.1=some p.2:=by
 obtain⟨b,hb,e⟩:=mem_filterMap.mp hp
 cases q:h.get? b with
 | none=>rw [q] at e;cases e
 | some o =>
  rw [q] at e
  have e':(b,o)=p:=Option.some.inj e
  subst e'
  exact⟨hb,q⟩
theorem Inv.pinned {pins:List (Addr×Obj)}{σ:St}{H:Hp}{s:Shared}{fp:List Addr}(I:Inv X pins σ H s)(hf:∀ b∈fp,FpOk X pins H b)(ho:∀ b∈fp,∃ o,s.heap.get? b=some o∧∀ v,o.data≠.cell v):Inv X (pins++av7 fp s.heap) σ H s :=
 I.pins_of fun p hp=>(mem_append.mp hp).elim (fun z=>I.pin p (mem_append_right _ z)) fun z=>by
  obtain⟨hb,e⟩:=bl8 z
  obtain⟨f0,f1,f2,_⟩:=hf p.1 hb
  obtain⟨o,e',d⟩:=ho p.1 hb
  rw [e] at e';cases e'
  exact⟨e,f0,f1,f2,d⟩
theorem Inv.unpinned {pins pl:List (Addr×Obj)}{σ:St}{H:Hp}{s:Shared}(I:Inv X (pins++pl) σ H s):Inv X pins σ H s:=I.pins_of fun p hp=>I.pin p (mem_append_right _ (List.mem_append_left _ hp))
theorem bP4 {iter:Expr}{body:List Stmt}{wi:TI}{g:TG}{tb:TS}{pos:Pos}(hp:PassesOwn (model X.prog X.w) X.A X.env X.xe)(hc:X.calm=true)(hi:PI X tg iter wi)(hg:PG X tg g)(hb:PSs X body tb)
  (hs:∀ x,foldedSetIterable iter X.env x=pure x:=by intro _;rfl):PS X (.For tg iter body [] pos) (tFor wi g tb):=by
 intro pins s σ H D I h
 refine wpAny_For (thn (hi pins s σ H _ I h) fun v s1 h1=>thn h1 fun itv s2 h2=>?_) hs
 obtain⟨it,fp,tn,J,H2,e,I2,T,st2,f2,W,⟨m0,w0⟩,turn⟩:=h2
 subst e
 have stat:∀ {H':Hp},(∀ b∈fp,H' b=none)→∀ b∈fp,FpOk X pins H' b:=fun hn b hb=>⟨hn b hb,(f2 b hb).2⟩
 refine codeAny_forLoop_any (fun n s'=>∃ i σ' H',Inv X pins σ' H' s'∧tn i s'.heap∧(∀ b∈fp,H' b=none)∧W i n σ' H') ?_ m0 ⟨0,σ,H2,I2,st2,fun b hb=>(f2 b hb).1,w0⟩
 rintro n s3 ⟨i,σ3,H3,I3,st3,fr3,w3⟩
 rcases turn i n σ3 H3 w3 with ⟨stop,qn⟩ | ⟨go,N,hN,step⟩
 ·refine wpAny_passesOwn hp (thn (T.done X rfl rfl rfl hc i pins s3 σ3 H3 X.xe I3 (stat fr3) st3 stop) fun r s4 ⟨hr,I4⟩=>?_)
  subst hr
  exact wpAny_execs_nil ⟨σ3,H3,I4,qn⟩
 ·refine wpAny_passesOwn hp (thn (T.item X rfl rfl rfl hc i pins s3 σ3 H3 X.xe I3 (stat fr3) st3 go) fun r s4 ⟨u,hr,h4⟩=>?_)
  subst hr
  refine wpAny_passesOwn hp (thn h4 fun _ s5 ⟨x,H5,I5,r5,y5,st5,fr5⟩=>?_)
  have I5':=I5.pinned (stat fr5) (T.obj _ _ st5)
  refine wpAny_passesOwn hp (thn (hg _ s5 σ3 H5 x u _ I5' r5 (step x H5 y5)) fun _ s6 ⟨σ6,H6,I6,q6⟩=>?_)
  refine wpAny_passesOwn hp (thn (hb _ s6 σ6 H6 _ I6 q6) fun f s7 q7=>?_)
  have again:∀ {σ7:St} {H7:Hp},Inv X (pins++av7 fp s5.heap) σ7 H7 s7→N σ7 H7→∃ m,m < n∧∃ i σ' H',Inv X pins σ' H' s7∧tn i s7.heap∧(∀ b∈fp,H' b=none)∧W i m σ' H':=fun {σ7 H7} I7 n7=>by
   obtain⟨m',hm,w7⟩:=hN σ7 H7 n7
   refine⟨m',hm,i+1,σ7,H7,I7.unpinned,T.keep _ _ _ st5 fun b hb o e=>(I7.pin (b,o) (mem_append_right _ (mem_append_right _ (aj5 hb e)))).1,fun b hb=>?_,w7⟩
   obtain⟨o,e,d⟩:=T.obj _ _ st5 b hb
   exact (I7.pin (b,o) (mem_append_right _ (mem_append_right _ (aj5 hb e)))).2.1
  cases f with
  | next=>obtain⟨σ7,H7,I7,n7⟩:=q7;exact again I7 n7
  | cont=>obtain⟨σ7,H7,I7,n7⟩:=q7;exact again I7 n7
  | brk=>obtain⟨σ7,H7,I7,q7⟩:=q7;exact⟨σ7,H7,I7.unpinned,q7⟩
  | ret v=>obtain⟨x7,σ7,H7,I7,r7,q7⟩:=q7;exact⟨x7,σ7,H7,I7.unpinned,r7,q7⟩
end
abbrev R2:=V→V→Hp→VK→Prop
def OpR (X:Cx)(f:Value→Value→Sem Value)(r:R2):Prop :=
 ∀ (pins:List (Addr×Obj)) (s:Shared) (σ:St) (H:Hp) (x y:V) (v u:Value) (Q:VK),Inv X pins σ H s→RelV x v→RelV y u→r x y H Q →
  wpAny (model X.prog X.w) X.A (f v u) (EP X pins σ Q) X.xe s
def UnR (X:Cx)(f:Value→Sem Value)(r:V→Hp→VK→Prop):Prop :=
 ∀ (pins:List (Addr×Obj)) (s:Shared) (σ:St) (H:Hp) (x:V) (v:Value) (Q:VK),Inv X pins σ H s→RelV x v→r x H Q →
  wpAny (model X.prog X.w) X.A (f v) (EP X pins σ Q) X.xe s
def ai5 (X:Cx)(f:Value)(r:List V→Hp→VK→Prop):Prop :=
 ∀ (pins:List (Addr×Obj)) (s:Shared) (σ:St) (H:Hp) (xs:List V) (us:List Value) (Q:VK),Inv X pins σ H s→Vals xs us→r xs H Q →
  wpAny (model X.prog X.w) X.A (call f us) (EP X pins σ Q) X.xe s
def tOp (r:R2)(ta tb:TE):TE:=fun σ H Q=>ta σ H fun x H1=>tb σ H1 fun y H2=>r x y H2 Q
def tUn (r:V→Hp→VK→Prop)(ta:TE):TE:=fun σ H Q=>ta σ H fun x H1=>r x H1 Q
def rI (C:Int→Int→Prop)(g:Int→Int→V):R2:=fun x y H Q=>∃ i j,x=.int i∧y=.int j∧C i j∧Q (g i j) H
def rI0 (g:Int→Int→V):R2:=fun x y H Q=>∃ i j,x=.int i∧y=.int j∧Q (g i j) H
def rU (g:Int→V):V→Hp→VK→Prop:=fun x H Q=>∃ i,x=.int i∧Q (g i) H
section
variable {X:Cx}{a b c:Expr}{ta tb tc:TE}{pos:Pos}
theorem binT (ha:PE X a ta)(hb:PE X b tb){pins:List (Addr×Obj)}{s:Shared}{σ:St}{H:Hp}{R:V→V→Hp→Prop}(I:Inv X pins σ H s)
  (h:ta σ H fun x H1=>tb σ H1 fun y H2=>R x y H2) {Q:Value→Shared→Prop} {f:Value→Value→Sem Value}
  (hf:∀ v u s2 x y H2,Inv X pins σ H2 s2→RelV x v→RelV y u→R x y H2→wpAny (model X.prog X.w) X.A (f v u) Q X.xe s2) :
  wpAny (model X.prog X.w) X.A (eval a X.env) (fun v s₁=>wpAny (model X.prog X.w) X.A (eval b X.env) (fun u s₂=>wpAny (model X.prog X.w) X.A (f v u) Q X.xe s₂) X.xe s₁) X.xe s:=by
 refine thn (ha pins s σ H _ I h) fun v s1 ⟨x,H1,I1,r1,q1⟩=>?_
 refine thn (hb pins s1 σ H1 _ I1 q1) fun u s2 ⟨y,H2,I2,r2,q2⟩=>?_
 exact hf v u s2 x y H2 I2 r1 r2 q2
theorem bB9 {op:Operator}{r:R2}(ho:OpR X (binaryOp op) r)(ha:PE X a ta)(hb:PE X b tb):PE X (.BinOp a op b pos) (tOp r ta tb):=by
 intro pins s σ H Q I h
 exact wpAny_BinOp (binT ha hb I h fun v u s2 x y H2 I2 rx ry q=>ho pins s2 σ H2 x y v u Q I2 rx ry q)
theorem bC0 {op:UnaryOp}{r:V→Hp→VK→Prop}(ho:UnR X (unaryOp op) r)(ha:PE X a ta):PE X (.UnaryOp op a pos) (tUn r ta):=by
 intro pins s σ H Q I h
 exact UnaryOp_ (thn (ha pins s σ H _ I h) fun v s1 ⟨x,H1,I1,r1,q1⟩=>ho pins s1 σ H1 x v Q I1 r1 q1)
theorem opI {f:Value→Value→Sem Value}{C:Int→Int→Prop}{g:Int→Int→Int}
  (rule:∀ (i j:Int) (t u:Tok) (s:Shared) (Q:Value→Shared→Prop) (E:Value→Shared→Prop),C i j→Q (.int (g i j) s.toks) { s with toks:=s.toks+1 }→wpAny (model X.prog X.w) X.A (f (.int i t) (.int j u)) Q E s) :
  OpR X f (rI C fun i j=>.int (g i j)):=by
 intro pins s σ H x y v u Q I rx ry h
 obtain⟨i,j,rfl,rfl,hc,q⟩:=h
 obtain⟨t,rfl⟩:=rx
 obtain⟨t',rfl⟩:=ry
 exact rule i j t t' s _ _ hc ⟨.int (g i j),H,I.tok _,⟨_,rfl⟩,q⟩
theorem opI0 {f:Value→Value→Sem Value}{g:Int→Int→Int}
  (rule:∀ (i j:Int) (t u:Tok) (s:Shared) (Q:Value→Shared→Prop) (E:Value→Shared→Prop),Q (.int (g i j) s.toks) { s with toks:=s.toks+1 }→wpAny (model X.prog X.w) X.A (f (.int i t) (.int j u)) Q E s) :
  OpR X f (rI0 fun i j=>.int (g i j)):=by
 intro pins s σ H x y v u Q I rx ry h
 obtain⟨i,j,rfl,rfl,q⟩:=h
 obtain⟨t,rfl⟩:=rx
 obtain⟨t',rfl⟩:=ry
 exact rule i j t t' s _ _ ⟨.int (g i j),H,I.tok _,⟨_,rfl⟩,q⟩
theorem opB0 {f:Value→Value→Sem Value}{g:Int→Int→Bool}
  (rule:∀ (i j:Int) (t u:Tok) (s:Shared) (Q:Value→Shared→Prop) (E:Value→Shared→Prop),Q (.bool (g i j)) s→wpAny (model X.prog X.w) X.A (f (.int i t) (.int j u)) Q E s) :
  OpR X f (rI0 fun i j=>.bl (g i j)):=by
 intro pins s σ H x y v u Q I rx ry h
 obtain⟨i,j,rfl,rfl,q⟩:=h
 obtain⟨t,rfl⟩:=rx
 obtain⟨t',rfl⟩:=ry
 exact rule i j t t' s _ _ ⟨.bl (g i j),H,I,rfl,q⟩
def CPow (i j:Int):Prop:=0≤j∧j≤1000000∧i.natAbs < 2 ^ 64
theorem ac7:OpR X (binaryOp .Add) (rI0 fun i j=>.int (i+j)):=opI0 fun _ _ _ _ _ _ _ q=>add_int q
theorem ag6:OpR X (binaryOp .Sub) (rI0 fun i j=>.int (i - j)):=opI0 fun _ _ _ _ _ _ _ q=>sub_int q
theorem ae1:OpR X (binaryOp .Mod) (rI (fun _ j=>0 < j) fun i j=>.int (i % j)):=opI fun i j _ _ _ _ _ hc q=>by
 have h1:(0:Int) < j:=hc
 exact mod_int' (by omega) (by rw [Int.fmod_eq_emod_of_nonneg i (by omega)];exact q)
theorem bF6:OpR X (binaryOp .Mod) (rI (fun _ j=>j≠0) fun i j=>.int (i.fmod j)):=opI fun _ _ _ _ _ _ _ hc q=>mod_int' hc q
theorem aB2:OpR X (binaryOp .Pow) (rI CPow fun i j=>.int (i ^ j.toNat)):=opI fun _ _ _ _ _ _ _ hc q=>pow_int_small hc.1 hc.2.1 hc.2.2 q
theorem unI {f:Value→Sem Value}{g:Int→Int}
  (rule:∀ (i:Int) (t:Tok) (s:Shared) (Q:Value→Shared→Prop) (E:Value→Shared→Prop),Q (.int (g i) s.toks) { s with toks:=s.toks+1 }→wpAny (model X.prog X.w) X.A (f (.int i t)) Q E s) :
  UnR X f (rU fun i=>.int (g i)):=by
 intro pins s σ H x v Q I rx h
 obtain⟨i,rfl,q⟩:=h
 obtain⟨t,rfl⟩:=rx
 exact rule i t s _ _ ⟨.int (g i),H,I.tok _,⟨_,rfl⟩,q⟩
theorem bl9:UnR X (unaryOp .USub) (rU fun i=>.int (-i)):=unI fun _ _ _ _ _ q=>neg_int q
end
def scal:V→V→Bool
 | .non,.non=>true | .non,.int _=>true | .int _,.non=>true | .non,.bl _=>true | .bl _,.non=>true | .non,.str _=>true | .str _,.non=>true
 | .int _,.int _=>true | .bl _,.bl _=>true | .str _,.str _=>true | .byt _,.byt _=>true
 | .int _,.str _=>true | .str _,.int _=>true | .bl _,.str _=>true | .str _,.bl _=>true
 | _,_=>false
def rEq:R2:=fun x y H Q=>scal x y=true∧Q (.bl (decide (x=y))) H
def rNe:R2:=fun x y H Q=>scal x y=true∧Q (.bl (!decide (x=y))) H
theorem av8 {i j:Int}:decide (V.int i=V.int j)=(i == j):=by
 rw [Bool.eq_iff_iff]
 simp
theorem bm0 {i j:Bool}:decide (V.bl i=V.bl j)=(i == j):=by
 rw [Bool.eq_iff_iff]
 simp
theorem bc4 {i j:Str}:decide (V.str i=V.str j)=(i == j):=by
 rw [Bool.eq_iff_iff]
 simp
theorem bc5 {i j:Array UInt8}:decide (V.byt i=V.byt j)=(i.toList == j.toList):=by
 rw [Bool.eq_iff_iff]
 cases i
 cases j
 simp
section
variable {X:Cx}{a b c:Expr}{ta tb tc:TE}{pos:Pos}
theorem ac8 {pins:List (Addr×Obj)}{σ:St}{H:Hp}{s:Shared}{Q:VK}{k k':Bool}(I:Inv X pins σ H s)(q:Q (.bl k) H)(e:k=k'):EP X pins σ Q (.bool k') s:=by
 subst e
 exact⟨.bl k,H,I,rfl,q⟩
theorem au7:OpR X (compareOp .Eq) rEq:=by
 intro pins s σ H x y v u Q I rx ry h
 obtain⟨hs,q⟩:=h
 cases x with
 | non =>
  cases rx
  cases y with
  | non=>cases ry;exact PySem.EqNone.eq_none_none (ac8 I q (by simp))
  | bl j=>cases ry;exact PySem.EqNone.eq_none_bool (ac8 I q (by simp))
  | int j=>obtain⟨t',rfl⟩:=ry;exact PySem.EqNone.eq_none_int (ac8 I q (by simp))
  | str j=>obtain⟨t',rfl⟩:=ry;exact PySem.EqNone.eq_none_str (ac8 I q (by simp))
  | _=>exact absurd (show false=true from hs) Bool.false_ne_true
 | bl i =>
  cases rx
  cases y with
  | non=>cases ry;exact PySem.EqNone.eq_bool_none (ac8 I q (by simp))
  | bl j=>cases ry;exact eq_bool (ac8 I q bm0)
  | str j=>obtain⟨t',rfl⟩:=ry;exact PySem.EqMixed.eq_bool_str (ac8 I q (by simp))
  | _=>exact absurd (show false=true from hs) Bool.false_ne_true
 | int i =>
  obtain⟨t,rfl⟩:=rx
  cases y with
  | non=>cases ry;exact PySem.EqNone.eq_int_none (ac8 I q (by simp))
  | int j=>obtain⟨t',rfl⟩:=ry;exact eq_int (ac8 I q av8)
  | str j=>obtain⟨t',rfl⟩:=ry;exact PySem.EqMixed.eq_int_str (ac8 I q (by simp))
  | _=>exact absurd (show false=true from hs) Bool.false_ne_true
 | str i =>
  obtain⟨t,rfl⟩:=rx
  cases y with
  | non=>cases ry;exact PySem.EqNone.eq_str_none (ac8 I q (by simp))
  | bl j=>cases ry;exact PySem.EqMixed.eq_str_bool (ac8 I q (by simp))
  | int j=>obtain⟨t',rfl⟩:=ry;exact PySem.EqMixed.eq_str_int (ac8 I q (by simp))
  | str j=>obtain⟨t',rfl⟩:=ry;exact eq_str (ac8 I q bc4)
  | _=>exact absurd (show false=true from hs) Bool.false_ne_true
 | byt i =>
  obtain⟨t,rfl⟩:=rx
  cases y with
  | byt j=>obtain⟨t',rfl⟩:=ry;exact PySem.W.eq_bytes (ac8 I q bc5)
  | _=>exact absurd (show false=true from hs) Bool.false_ne_true
 | _=>cases y <;> exact absurd (show false=true from hs) Bool.false_ne_true
theorem ay2:OpR X (compareOp .NotEq) rNe:=by
 intro pins s σ H x y v u Q I rx ry h
 obtain⟨hs,q⟩:=h
 cases x with
 | non =>
  cases rx
  cases y with
  | non=>cases ry;exact PySem.EqNone.ne_none_none (ac8 I q (by simp))
  | bl j=>cases ry;exact PySem.EqNone.ne_none_bool (ac8 I q (by simp))
  | int j=>obtain⟨t',rfl⟩:=ry;exact PySem.EqNone.ne_none_int (ac8 I q (by simp))
  | str j=>obtain⟨t',rfl⟩:=ry;exact PySem.EqNone.ne_none_str (ac8 I q (by simp))
  | _=>exact absurd (show false=true from hs) Bool.false_ne_true
 | bl i =>
  cases rx
  cases y with
  | non=>cases ry;exact PySem.EqNone.ne_bool_none (ac8 I q (by simp))
  | bl j=>cases ry;exact ne_bool (ac8 I q (congrArg not bm0))
  | str j=>obtain⟨t',rfl⟩:=ry;exact PySem.EqMixed.ne_bool_str (ac8 I q (by simp))
  | _=>exact absurd (show false=true from hs) Bool.false_ne_true
 | int i =>
  obtain⟨t,rfl⟩:=rx
  cases y with
  | non=>cases ry;exact PySem.EqNone.ne_int_none (ac8 I q (by simp))
  | int j=>obtain⟨t',rfl⟩:=ry;exact ne_int (ac8 I q (congrArg not av8))
  | str j=>obtain⟨t',rfl⟩:=ry;exact PySem.EqMixed.ne_int_str (ac8 I q (by simp))
  | _=>exact absurd (show false=true from hs) Bool.false_ne_true
 | str i =>
  obtain⟨t,rfl⟩:=rx
  cases y with
  | non=>cases ry;exact PySem.EqNone.ne_str_none (ac8 I q (by simp))
  | bl j=>cases ry;exact PySem.EqMixed.ne_str_bool (ac8 I q (by simp))
  | int j=>obtain⟨t',rfl⟩:=ry;exact PySem.EqMixed.ne_str_int (ac8 I q (by simp))
  | str j=>obtain⟨t',rfl⟩:=ry;exact ne_str (ac8 I q (congrArg not bc4))
  | _=>exact absurd (show false=true from hs) Bool.false_ne_true
 | byt i =>
  obtain⟨t,rfl⟩:=rx
  cases y with
  | byt j=>obtain⟨t',rfl⟩:=ry;exact PySem.W.ne_bytes (ac8 I q (congrArg not bc5))
  | _=>exact absurd (show false=true from hs) Bool.false_ne_true
 | _=>cases y <;> exact absurd (show false=true from hs) Bool.false_ne_true
theorem bh6:OpR X (compareOp .Lt) (rI0 fun i j=>.bl (decide (i < j))):=opB0 fun _ _ _ _ _ _ _ q=>lt_int q
theorem bC1:OpR X (compareOp .LtE) (rI0 fun i j=>.bl (decide (i≤j))):=opB0 fun _ _ _ _ _ _ _ q=>le_int q
theorem aJ9:OpR X (compareOp .Gt) (rI0 fun i j=>.bl (decide (j < i))):=opB0 fun _ _ _ _ _ _ _ q=>gt_int q
theorem bX6:OpR X (compareOp .GtE) (rI0 fun i j=>.bl (decide (j≤i))):=opB0 fun _ _ _ _ _ _ _ q=>ge_int q
theorem ad5 (b:Expr){op:CmpOp}(h:op≠.In:=by decide)(h2:op≠.NotIn:=by decide):behindInMarks op b=false:=by
 have e1:(op == CmpOp.In)=false:=by cases op <;> first | rfl | exact absurd rfl h
 have e2:(op == CmpOp.NotIn)=false:=by cases op <;> first | rfl | exact absurd rfl h2
 cases b <;> simp [behindInMarks,e1,e2]
theorem bc6 {op:CmpOp}{r:R2}(ho:OpR X (compareOp op) r)(ha:PE X a ta)(hb:PE X b tb)(hm:behindInMarks op b=false):PE X (.Compare a [op] [b] pos) (tOp r ta tb):=by
 intro pins s σ H Q I h
 exact wpAny_Compare1 (binT ha hb I h fun v u s2 x y H2 I2 rx ry q=>ho pins s2 σ H2 x y v u Q I2 rx ry q) hm
def bX7 (t:TE):TT:=fun σ H Q=>t σ H fun x H'=>∃ k,x=.bl k∧Q k H'
theorem aN5 {op:CmpOp}{r:R2}(ho:OpR X (compareOp op) r)(ha:PE X a ta)(hb:PE X b tb)(hm:behindInMarks op b=false):PT X (.Compare a [op] [b] pos) (bX7 (tOp r ta tb)):=by
 intro pins s σ H Q I h
 refine wpAny_isTrue_Compare1 (thn (ha pins s σ H _ I h) fun v s1 ⟨x,H1,I1,r1,q1⟩=>thn (hb pins s1 σ H1 _ I1 q1) fun u s2 ⟨y,H2,I2,r2,q2⟩ =>
  thn (ho pins s2 σ H2 x y v u _ I2 r1 r2 q2) fun c s3 ⟨z,H3,I3,r3,k,e,q3⟩=>?_) hm
 subst e
 cases r3
 exact wpAny_truthy_bool ⟨H3,I3,q3⟩
def bm1 (r r':R2)(ta tb tc:TE):TE:=fun σ H Q=>ta σ H fun x H1=>tb σ H1 fun y H2=>r x y H2 fun z H3=>∃ k,z=.bl k ∧
 (if k=true then tc σ H3 fun w' H4=>r' y w' H4 Q else Q (.bl false) H3)
theorem bu5 {op op':CmpOp}{r r':R2}(ho:OpR X (compareOp op) r)(ho':OpR X (compareOp op') r')(ha:PE X a ta)(hb:PE X b tb)(hc:PE X c tc)
  (hm:lastMarks [op,op'] [b,c]=false:=by with_unfolding_all rfl):PE X (.Compare a [op,op'] [b,c] pos) (bm1 r r' ta tb tc):=by
 intro pins s σ H Q I h
 refine Compare_chain (thn (ha pins s σ H _ I h) fun v s1 ⟨x,H1,I1,r1,q1⟩=>chain_link (thn (hb pins s1 σ H1 _ I1 q1) fun u s2 ⟨y,H2,I2,r2,q2⟩ =>
  thn (ho pins s2 σ H2 x y v u _ I2 r1 r2 q2) fun d s3 ⟨z,H3,I3,r3,k,e,q3⟩=>?_)) hm
 subst e
 cases r3
 refine wpAny_truthy_bool ?_
 cases k with
 | false=>exact ite_ff ⟨.bl false,H3,I3,rfl,q3⟩
 | true=>exact ite_tt (chain_last (thn (hc pins s3 σ H3 _ I3 q3) fun w' s4 ⟨z',H4,I4,r4,q4⟩=>ho' pins s4 σ H4 y z' u w' Q I4 r2 r4 q4))
theorem aB3:(sizeLine:Nat) < 2 ^ 63:=by rw [sizeLine_eq];decide
theorem vals1 {x:V}{us:List Value}(r:Vals [x] us):∃ u,us=[u]∧RelV x u:=by
 cases r with
 | cons r1 r2=>cases r2;exact⟨_,rfl,r1⟩
theorem vals2 {x y:V}{us:List Value}(r:Vals [x,y] us):∃ u w',us=[u,w']∧RelV x u∧RelV y w':=by
 cases r with
 | cons r1 r2 =>
  cases r2 with
  | cons r3 r4=>cases r4;exact⟨_,_,rfl,r1,r3⟩
theorem aI1:ai5 X (.builtin "abs") (fun xs H Q=>∃ i,xs=[.int i]∧Q (.int (if i < 0 then -i else i)) H):=by
 intro pins s σ H xs us Q I r h
 obtain⟨i,rfl,q⟩:=h
 obtain⟨u,rfl,t,rfl⟩:=vals1 r
 exact call_abs_int fun u tk=>⟨.int (if i < 0 then -i else i),H,I.tok _,⟨_,rfl⟩,q⟩
theorem aQ5:ai5 X (.type "int") (fun xs H Q=>(∃ i,xs=[.int i]∧Q (.int i) H)∨∃ k,xs=[.bl k]∧Q (.int (if k then 1 else 0)) H):=by
 intro pins s σ H xs us Q I r h
 rcases h with ⟨i,rfl,q⟩ | ⟨k,rfl,q⟩
 ·obtain⟨u,rfl,t,rfl⟩:=vals1 r
  exact call_int_int ⟨.int i,H,I,⟨_,rfl⟩,q⟩
 ·obtain⟨u,rfl,r1⟩:=vals1 r
  cases r1
  exact call_int_bool ⟨.int (if k then 1 else 0),H,I.tok _,⟨_,rfl⟩,q⟩
end
structure ObjM (h:Heap) (x dx C:Addr) (mA:Str→Option Value):Prop where
 obj:h.get? x=some (instObj C dx)
 ns:h.Ns1 dx mA
 ne:dx≠x
theorem bm2 {h:Heap}{dx:Addr}{mA:Str→Option Value}(n:h.Ns1 dx mA):∃ od,h.get? dx=some od∧∀ name,lookIn name od=some (mA name):=by
 obtain⟨o,es,ep,ho,hd,hk,_,hm⟩:=n
 refine⟨o,ho,fun name=>?_⟩
 have e:=hm name
 unfold nsFind findBy at e
 rw [← Array.find?_toList] at e
 unfold lookIn
 rw [hd]
 dsimp only
 split
 ·rename_i y q
  rw [q] at e
  exact congrArg some e
 ·rename_i q
  rw [q] at e
  have a:es.toList.any (·.refKey)=false:=by
   rw [any_eq_false]
   intro y hy
   obtain⟨z,t,hkey⟩:=hk y (Array.mem_toList_iff.mp hy)
   simp [DictEntry.refKey,hkey]
  have a':¬ es.toList.any (·.refKey)=true:=by rw [a];exact Bool.false_ne_true
  rw [if_neg a']
  exact congrArg some e
theorem ObjM.look {h:Heap}{x dx C:Addr}{mA:Str→Option Value}(I:ObjM h x dx C mA):∃ od,InstAt h x (instObj C dx) C (some od)∧∀ name,lookIn name od=some (mA name) :=
 let ⟨od,ho,hl⟩:=bm2 I.ns
 ⟨od,⟨I.obj,rfl,rfl,ho⟩,hl⟩
section
variable {prog:Program}{w:World}{A:Around}{E:Value→Shared→Prop}{s:Shared}{K:PySem.W.Frag}{x dx C f:Addr}{mA:Str→Option Value}{name:Str}{v:Value}
theorem get_map {expr:Bool}{Q:Value→Shared→Prop}(X:K.In s.heap)(I:ObjM s.heap x dx C mA)(hg:plainGet K C name=true)(hh:hasDictIn K C=true)
  (ha:findIn K (.ref C) name=some none) (hv:mA name=some v) (hv':handedIn v=true) (h:Q v { s with toks:=s.toks+1 }) :
  wpAny (model prog w) A (getAttr (.ref x) name expr) Q E s:=by
 obtain⟨od,J,hl⟩:=I.look
 exact PySem.W.get_value X J (plainGet_of hg).1 (PySem.W.findObj_own hh ha rfl (by rw [hl,hv])) hv' h
theorem bu6 {pl:Sem Bool}{Q:Value×List Value→Shared→Prop}(X:K.In s.heap)(I:ObjM s.heap x dx C mA)(hg:plainGet K C name=true)
  (hf:findIn K (.ref C) name=some (some (.ref f))) (ht:isFn K (.ref f)=true) (hv:mA name=none) (h:Q (.ref f,[.ref x]) s) :
  wpAny (model prog w) A (getMethod (.ref x) name pl) Q E s:=by
 obtain⟨od,J,hl⟩:=I.look
 exact PySem.W.method_fn X J (plainGet_of hg).1 (plainGet_of hg).2 hf (beq_iff_eq.mp ht) (by show (lookIn name od).map (·.isSome)=some false;rw [hl,hv];rfl) h
theorem bF7 {ns:List Str}{Q:Unit→Shared→Prop}(X:K.In s.heap)(I:ObjM s.heap x dx C mA)
  (hs:findIn K (.ref C) "__setattr__"=some (some (.builtin "object.__setattr__"))) (hp:plainOver K C=true) (ht:takerIn K C name=some none) (hh:hasDictIn K C=true)
  (hw:PySem.Within mA ns) (hsz:ns.length≤sizeLine)
  (h:∀ h',ObjM h' x dx C (fun y=>if y=name then some v else mA y)→Heap.SameBut dx s.heap h'→Q () { s with heap:=h',toks:=s.toks+2 }) :
  wpAny (model prog w) A (setAttr (.ref x) name v) Q E s:=by
 obtain⟨od,J,hl⟩:=I.look
 refine PySem.W.set_plain X J hs (PySem.W.osa_open (s:={ s with toks:=s.toks+1 }) (r:=none) X J hp ht fun b=>?_)
 obtain⟨cd,hc,hd'⟩:=PySem.W.any_some hh
 have hx:s.heap.get? x=some ⟨.ref C,some dx,.plain,#[]⟩:=I.obj
 refine wpAny_bind (wpAny_pure (wpAny_bind (wpAny_bind (wpAny_loadPart hx (wpAny_bind (PySem.W.Looks.here (s:={ s with toks:=s.toks+1 }) (PySem.W.looks_clsIn X hc) ?_))))))
 rw [hd']
 refine wpAny_pure (a:=some dx) (wpAny_bind (wpAny_pure (wpAny_bind ?_)))
 refine wpAny_nsSet1 (s:={ s with toks:=s.toks+1 }) I.ns fun h' hn2 hs2=>?_
 obtain⟨oD,esD,epD,hoD,hdD,hcD⟩:=hn2.count (PySem.Within.cons name v hw)
 refine wpAny_bind (wpAny_lookBehind hoD (by rw [hdD];exact pastItsLine_dict (le_trans hcD (by rw [length_cons];omega))) ?_)
 exact wpAny_pure (h _ ⟨(hs2.2 _ (Ne.symm I.ne)).trans I.obj,hn2,I.ne⟩ hs2)
theorem bu7 {R:Result→Shared→Prop}{vs:List Value}{kw:List (Str×Value)}(X:K.In s.heap)(hm:makesIn K C=true)
  (hi:findIn K (.ref C) "__init__"=some (some (.ref f))) (hf:typeIn K (.ref f)=some (.type "function"))
  (h:codeAny (model prog w) (A.under (.builtin "type.__call__" ⟨.ref C::vs,kw⟩)) (.call (.ref f) ⟨.ref (s.heap.objs.size+1)::vs,kw⟩) (PySem.W.InitBack (s.heap.objs.size+1) R)
   { s with heap:=(s.heap.push emptyDict).push (instObj C s.heap.objs.size) }) :
  codeAny (model prog w) A (.call (.ref C) ⟨vs,kw⟩) R s:=by
 obtain⟨hh,g,d,t,os⟩:=s
 exact PySem.W.make_core (PySem.W.makes_of X hm) (PySem.W.looks_findIn X hi) (fun self=>PySem.W.bind_fn X self hf) (.inl rfl) h
end
def putF (f:Str)(v:V):List (Str×V)→List (Str×V)
 | []=>[(f,v)]
 | (g,x)::r=>if g=f then (g,v)::r else (g,x)::putF f v r
theorem aH6 (f g:Str)(v:V):∀ fs:List (Str×V),(putF f v fs).lookup g=if g=f then some v else fs.lookup g
 | []=>by
  show List.lookup g [(f,v)]=_
  by_cases h:g=f
  ·have hb:(g == f)=true:=beq_iff_eq.mpr h
   simp only [List.lookup,hb,if_pos h]
  ·have hb:(g == f)=false:=beq_eq_false_iff_ne.mpr h
   simp only [List.lookup,hb,if_neg h]
 | (k,x)::r=>by
  have ih:=aH6 f g v r
  rw [show putF f v ((k,x)::r)=(if k=f then (k,v)::r else (k,x)::putF f v r) from rfl]
  by_cases hk:k=f
  ·rw [if_pos hk]
   by_cases h:g=k
   ·have hb:(g == k)=true:=beq_iff_eq.mpr h
    simp only [List.lookup,hb,if_pos (h.trans hk)]
   ·have hb:(g == k)=false:=beq_eq_false_iff_ne.mpr h
    simp only [List.lookup,hb,if_neg (fun e:g=f=>h (e.trans hk.symm))]
  ·rw [if_neg hk]
   by_cases h:g=k
   ·have hb:(g == k)=true:=beq_iff_eq.mpr h
    simp only [List.lookup,hb,if_neg (fun e:g=f=>hk (h.symm.trans e))]
   ·have hb:(g == k)=false:=beq_eq_false_iff_ne.mpr h
    simp only [List.lookup,hb]
    exact ih
theorem aB4 (f:Str)(v:V):∀ fs:List (Str×V),f∈(putF f v fs).map (·.1)∧∀ g,g∈fs.map (·.1)→g∈(putF f v fs).map (·.1)
 | []=>⟨by simp [putF],fun g h=>by simp at h⟩
 | (k,x)::r=>by
  obtain⟨i1,i2⟩:=aB4 f v r
  rw [show putF f v ((k,x)::r)=(if k=f then (k,v)::r else (k,x)::putF f v r) from rfl]
  by_cases hk:k=f
  ·rw [if_pos hk]
   subst hk
   exact⟨by simp,fun g h=>by simpa using h⟩
  ·rw [if_neg hk]
   refine⟨?_,fun g h=>?_⟩
   ·rw [map_cons]
    exact mem_cons_of_mem _ i1
   ·rw [map_cons] at h ⊢
    rcases mem_cons.mp h with e | e
    ·exact mem_cons.mpr (.inl e)
    ·exact mem_cons_of_mem _ (i2 g e)
theorem aH7 (f:Str)(v:V):∀ fs:List (Str×V),(putF f v fs).length≤fs.length+1
 | []=>by simp [putF]
 | (k,x)::r=>by
  have ih:=aH7 f v r
  rw [show putF f v ((k,x)::r)=(if k=f then (k,v)::r else (k,x)::putF f v r) from rfl]
  by_cases hk:k=f
  ·rw [if_pos hk,length_cons,length_cons];omega
  ·rw [if_neg hk,length_cons,length_cons];omega
theorem RelO.some_of {v:V}{o:Option Value}(r:RelO (some v) o):∃ u,o=some u∧RelV v u:=by
 cases o with
 | none=>exact (show False from r).elim
 | some u=>exact⟨u,rfl,r⟩
theorem RelO.none_of {o:Option Value}(r:RelO none o):o=none:=by
 cases o with
 | none=>rfl
 | some u=>exact (show False from r).elim
theorem bm3 {v:V}{u:Value}(r:RelV v u):handedIn u=true:=by
 cases v with
 | non=>cases (show u=Value.none from r);rfl
 | bl b=>cases (show u=Value.bool b from r);rfl
 | int i=>obtain⟨t,e⟩:=(show ∃ t,u=Value.int i t from r);cases e;rfl
 | str x=>obtain⟨t,e⟩:=(show ∃ t,u=Value.str x t from r);cases e;rfl
 | byt b=>obtain⟨t,e⟩:=(show ∃ t,u=Value.bytes b t from r);cases e;rfl
 | flt b=>obtain⟨t,e⟩:=(show ∃ t,u=Value.float b t from r);cases e;rfl
 | ref a=>cases (show u=Value.ref a from r);rfl
 | ty n=>cases (show u=Value.type n from r);rfl
section
variable {P:Program}{w:World}{H H':Hp}{h h':Heap}{a C dx:Addr}{fs fs':List (Str×V)}
theorem aF2 (hok:HOk P w H h)(e:H a=some (.ins C dx fs)):∃ mA,ObjM h a dx C mA∧(∀ f,RelO (fs.lookup f) (mA f))∧PySem.Within mA (fs.map (·.1))∧fs.length≤1000∧H dx=some (.own a):=by
 obtain⟨d,z,ne,ob,mA,n,r,q⟩:=(show ObjOk P w H h a (.ins C dx fs) from hok a _ e)
 exact⟨mA,⟨ob,n,ne⟩,r,q,z,d⟩
end
structure Cls (K:PySem.W.Frag) (C:Addr):Prop where
 pg:plainGet K C Str.empty=true
 hd:hasDictIn K C=true
 po:plainOver K C=true
 sa:findIn K (.ref C) "__setattr__"=some (some (.builtin "object.__setattr__"))
theorem Cls.get {K:PySem.W.Frag}{C:Addr}(c:Cls K C)(f:Str):plainGet K C f=true:=c.pg
def NoAttr (K:PySem.W.Frag)(C:Addr)(f:Str):Prop:=findIn K (.ref C) f=some none
theorem NoAttr.taker {K:PySem.W.Frag}{C:Addr}{f:Str}(n:NoAttr K C f):takerIn K C f=some none:=by
 unfold takerIn
 rw [show findIn K (.ref C) f=some none from n]
 rfl
structure Meth (K:PySem.W.Frag) (C:Addr) (m:Str) (f:Addr):Prop where
 at_:findIn K (.ref C) m=some (some (.ref f))
 fn:isFn K (.ref f)=true
 kp:keepIn K (.ref f)=true
section
variable {X:Cx}{pins:List (Addr×Obj)}{σ:St}{H:Hp}{s:Shared}{a C dx:Addr}{fs:List (Str×V)}{f:Str}{v:V}{A:Around}{E:Value→Shared→Prop}
theorem bh7 {b:Bool}{Q:Value→Shared→Prop}(I:Inv X pins σ H s)(e:H a=some (.ins C dx fs))(c:Cls X.K C)(n:NoAttr X.K C f)(l:fs.lookup f=some v)
  (h:∀ u s',Inv X pins σ H s'→RelV v u→Q u s'):wpAny (model X.prog X.w) A (getAttr (.ref a) f b) Q E s:=by
 obtain⟨mA,O,r,_,_,_⟩:=aF2 I.hok e
 obtain⟨u,hu,ru⟩:=RelO.some_of (v:=v) (o:=mA f) (by rw [← l];exact r f)
 exact get_map I.kIn O (c.get f) c.hd n hu (bm3 ru) (h u _ (I.tok _) ru)
theorem ay3 {m:Str}{g:Addr}{pl:Sem Bool}{Q:Value×List Value→Shared→Prop}(I:Inv X pins σ H s)(e:H a=some (.ins C dx fs))(c:Cls X.K C)(k:Meth X.K C m g)(l:fs.lookup m=none)
  (h:Q (.ref g,[.ref a]) s):wpAny (model X.prog X.w) A (getMethod (.ref a) m pl) Q E s:=by
 obtain⟨mA,O,r,_,_,_⟩:=aF2 I.hok e
 have hn:mA m=none:=RelO.none_of (by rw [← l];exact r m)
 exact bu6 I.kIn O (c.get m) k.at_ k.fn hn h
theorem aK0 {y:V}{u:Value}{Q:Unit→Shared→Prop}(I:Inv X pins σ H s)(e:H a=some (.ins C dx fs))(c:Cls X.K C)(n:NoAttr X.K C f)(hl:fs.length < 1000)(ry:RelV y u)
  (h:∀ s',Inv X pins σ (upd H a (.ins C dx (putF f y fs))) s'→Q () s'):wpAny (model X.prog X.w) A (setAttr (.ref a) f u) Q E s:=by
 obtain⟨mA,O,r,wi,_,ho⟩:=aF2 I.hok e
 have hz:(fs.map (·.1)).length≤sizeLine:=by rw [length_map,sizeLine_eq];omega
 refine bF7 I.kIn O c.sa c.po n.taker c.hd wi hz fun h' O' sb=>h _ ?_
 have hd:∃ o,h'.get? dx=some o:=let ⟨o,_,_,e',_⟩:=O'.ns;⟨o,e'⟩
 refine I.write (x:=a) (e:=dx) (by rw [e];exact True.intro) (.inr ho) (fun b q hb z=>(sb.2 b hb).trans z) hd ?_
 refine⟨by rw [ab2 O.ne];exact ho,?_,O.ne,O'.obj,_,O'.ns,fun g=>?_,fun g hg=>?_⟩
 ·have:=aH7 f y fs;omega
 ·show RelO ((putF f y fs).lookup g) (if g=f then some u else mA g)
  rw [aH6]
  by_cases q:g=f
  ·rw [if_pos q,if_pos q];exact ry
  ·rw [if_neg q,if_neg q];exact r g
 ·by_cases q:g=f
  ·rw [q];exact (aB4 f y fs).1
  ·refine (aB4 f y fs).2 g (wi g fun z=>hg ?_)
   show (if g=f then some u else mA g)=none
   rw [if_neg q];exact z
theorem Inv.made (I:Inv X pins σ H s):Inv X pins σ (upd (upd H s.heap.objs.size (.own (s.heap.objs.size+1))) (s.heap.objs.size+1) (.ins C s.heap.objs.size []))
  { s with heap:=(s.heap.push emptyDict).push (instObj C s.heap.objs.size) }:=by
 have e1:(s.heap.push emptyDict).get? s.heap.objs.size=some emptyDict:=Heap.get?_push_size s.heap rfl
 have e2:((s.heap.push emptyDict).push (instObj C s.heap.objs.size)).get? (s.heap.objs.size+1)=some (instObj C s.heap.objs.size):=by
  have:=Heap.get?_push_size (s.heap.push emptyDict) (o:=instObj C s.heap.objs.size) rfl
  rwa [Heap.size_push] at this
 have e3:(s.heap.push emptyDict).Ns s.heap.objs.size (fun _=>none):=⟨emptyDict,#[],_,e1,rfl,(fun e he=>absurd he (by simp)),fun _=>rfl⟩
 have I1:=I.laid (a:=s.heap.objs.size) (o:=.own (s.heap.objs.size+1)) (h':=s.heap.push emptyDict) (t':=s.toks) (fun b u q=>Heap.get?_push_of_some _ q) (le_refl _) ⟨_,e1⟩
 refine I1.laid (a:=s.heap.objs.size+1) (o:=.ins C s.heap.objs.size []) (t':=s.toks) (fun b u q=>Heap.get?_push_of_some _ q) (le_of_eq (Heap.size_push _ _)) ?_
 have ne:s.heap.objs.size≠s.heap.objs.size+1:=ne_of_lt (Nat.lt_succ_self _)
 refine⟨by rw [ab2 ne,ab5],zero_le _,ne,e2,fun _=>none,(Heap.Ns1.of_empty e3).at fun o q=>Heap.get?_push_of_some _ q,fun _=>True.intro,fun y hy=>absurd rfl hy⟩
theorem bF8 {prog:Program}{w:World}{env:Env}{e:Expr}{f:Str}{pos:Pos}{s:Shared}{Q:Value→Shared→Prop}(hb:attributeBase e f env (eval e env)=eval e env)
  (h:wpAny (model prog w) A (eval e env) (fun o s₁=>wpAny (model prog w) A (getAttr o f true) Q E s₁) E s):wpAny (model prog w) A (eval (.Attribute e f pos) env) Q E s :=
 Attribute_any_ h (by rw [arm_eval_Attribute,hb])
end
def tFld (K:PySem.W.Frag)(ta:TE)(f:Str):TE:=fun σ H Q=>ta σ H fun x H1=>∃ a C dx fs v,x=.ref a∧H1 a=some (.ins C dx fs)∧Cls K C∧NoAttr K C f∧fs.lookup f=some v∧Q v H1
def sFld (K:PySem.W.Frag)(ta tv:TE)(f:Str):TS:=fun D σ H=>tv σ H fun y H1=>ta σ H1 fun x H2=>∃ a C dx fs,x=.ref a∧H2 a=some (.ins C dx fs)∧Cls K C∧NoAttr K C f∧fs.length < 1000 ∧
 D.nx σ (upd H2 a (.ins C dx (putF f y fs)))
section
variable {X:Cx}{o e value:Expr}{f:Str}{pos pos' tpos:Pos}{ta tv:TE}
theorem bP5 (he:PE X e ta)(hb:attributeBase e f X.env (eval e X.env)=eval e X.env):PE X (.Attribute e f pos) (tFld X.K ta f):=by
 intro pins s σ H Q I h
 refine bF8 hb (thn (he pins s σ H _ I h) fun u s1 ⟨x,H1,I1,rx,a,C,dx,fs,v,ex,ea,c,n,l,q⟩=>?_)
 subst ex
 obtain rfl:u=Value.ref a:=rx
 exact bh7 I1 ea c n l fun u' s2 I2 ru=>⟨v,H1,I2,ru,q⟩
theorem bP6 (ha:PE X o ta)(hv:PE X value tv)(hs:swapsWith value (some (.Attribute o f pos')) pos.line X.env=pure false):PS X (.Assign [.Attribute o f pos'] value pos) (sFld X.K ta tv f):=by
 intro pins s σ H D I h
 refine plainObj_wpAny_Assign_Attribute (thn (hv pins s σ H _ I h) fun u s1 ⟨y,H1,I1,ry,q⟩=>thn (ha pins s1 σ H1 _ I1 q) fun ov s2 ⟨x,H2,I2,rx,a,C,dx,fs,ex,ea,c,n,l,q2⟩=>?_) hs
 subst ex
 obtain rfl:ov=Value.ref a:=rx
 exact aK0 I2 ea c n l ry fun s3 I3=>⟨σ,_,I3,q2⟩
theorem bW2 {pl:Sem Bool}{m:Str}{apos:Pos}{args:List Expr}{pins:List (Addr×Obj)}{s:Shared}{σ:St}{H:Hp}{Q:Value→Shared→Prop}{te:TE}(he:PE X e te)(I:Inv X pins σ H s)
  (h:te σ H fun x H1=>∃ a C dx fs g,x=.ref a∧H1 a=some (.ins C dx fs)∧Cls X.K C∧Meth X.K C m g∧fs.lookup m=none ∧
   ∀ s1,Inv X pins σ H1 s1→wpAny (model X.prog X.w) X.A (callWith pos (.ref g) [.ref a] (backTo pos (starEach args X.env)) (backToKw pos (keywordEach [] X.env))) Q X.xe s1)
  (ht:eval (.Call (.Attribute e m apos) args [] pos) X.env=(do
   let ov ← eval e X.env
   standAt apos.atName
   let (f,first) ← holding [ov] (getMethod ov m pl)
   callWith pos f first (backTo pos (starEach args X.env)) (backToKw pos (keywordEach [] X.env)))) :
  wpAny (model X.prog X.w) X.A (eval (.Call (.Attribute e m apos) args [] pos) X.env) Q X.xe s:=by
 refine methodCall_KW (pl:=pl) (thn (he pins s σ H _ I h) fun u s1 ⟨x,H1,I1,rx,a,C,dx,fs,g,ex,ea,c,k,l,q⟩=>?_) ht
 subst ex
 obtain rfl:u=Value.ref a:=rx
 exact ay3 I1 ea c k l (q s1 I1)
end
section
variable {X:Cx}{pins:List (Addr×Obj)}{σ:St}{H:Hp}{s:Shared}{A:Around}{E:Value→Shared→Prop}{Q:Value→Shared→Prop}{c:Value}{b:Bool}
inductive TyOf (K:PySem.W.Frag) (H:Hp):V→Value→Prop where
 | non:TyOf K H .non (.type "NoneType")
 | bl (x:Bool):TyOf K H (.bl x) (.type "bool")
 | int (i:Int):TyOf K H (.int i) (.type "int")
 | str (x:Str):TyOf K H (.str x) (.type "str")
 | flt (x:UInt64):TyOf K H (.flt x) (.type "float")
 | lst {a:Addr} {xs:List V} (e:H a=some (.lst xs)):TyOf K H (.ref a) (.type "list")
 | frz {a:Addr} {o:Obj} {xs:List V} (e:H a=some (.frz o (.lst xs))):TyOf K H (.ref a) (.type "list")
 | tup {a:Addr} {xs:List V} (e:H a=some (.tup xs)):TyOf K H (.ref a) (.type "tuple")
 | dK {a:Addr} {kvs:List (Key×V)} (e:H a=some (.dK kvs)):TyOf K H (.ref a) (.type "dict")
 | dT {a:Addr} {kvs:List (List Key×V)} (e:H a=some (.dT kvs)):TyOf K H (.ref a) (.type "dict")
 | ins {a C dx:Addr} {fs:List (Str×V)} (e:H a=some (.ins C dx fs)) (cl:Cls K C) (ha:findIn K (.ref C) "__class__"=some (some (.builtin "object.__class__")))
   (hn:PySem.W.specialIn K (.builtin "object.__class__") "__get__"=some (some (.builtin "getset_descriptor.__get__"))) (htk:PySem.W.takesIn K (.builtin "object.__class__")=some true)
   (hm:mroIn K C (.type "object")=some true):TyOf K H (.ref a) (.ref C)
theorem bm4 {x:V}{u t:Value}(I:Inv X pins σ H s)(rx:RelV x u)(ty:TyOf X.K H x t)(e:kitOne X.K t c=some b)(h:∀ tk,Q (.bool b) { s with toks:=tk }) :
  wpAny (model X.prog X.w) A (call (.builtin "isinstance") [u,c]) Q E s:=by
 cases ty with
 | non=>cases (show u=Value.none from rx);exact kia_one PySem.W.kitx_none I.kIn True.intro e (fun z=>nomatch z) h
 | bl y=>cases (show u=Value.bool y from rx);exact kia_one PySem.W.kitx_bool I.kIn True.intro e (fun z=>nomatch z) h
 | int i=>obtain⟨t,q⟩:=(show ∃ t,u=Value.int i t from rx);cases q;exact kia_one PySem.W.kitx_int I.kIn True.intro e (fun z=>nomatch z) h
 | str y=>obtain⟨t,q⟩:=(show ∃ t,u=Value.str y t from rx);cases q;exact kia_one PySem.W.kitx_str I.kIn True.intro e (fun z=>nomatch z) h
 | flt y=>obtain⟨t,q⟩:=(show ∃ t,u=Value.float y t from rx);cases q;exact kia_one PySem.W.kitx_float I.kIn True.intro e (fun z=>nomatch z) h
 | @lst a xs ea =>
  cases (show u=Value.ref a from rx)
  obtain⟨_,_,n,_,h1⟩:=(show ObjOk X.prog X.w H s.heap a (.lst xs) from I.hok a _ ea)
  exact kia_one kitx_list I.kIn ⟨_,h1,rfl⟩ e (fun z=>nomatch z) h
 | @frz a ob xs ea =>
  cases (show u=Value.ref a from rx)
  obtain⟨_,_,_,n,_,h1⟩:=(show ObjOk X.prog X.w H s.heap a (.frz ob (.lst xs)) from I.hok a _ ea)
  exact kia_one kitx_list I.kIn ⟨_,h1,rfl⟩ e (fun z=>nomatch z) h
 | @tup a xs ea =>
  cases (show u=Value.ref a from rx)
  obtain⟨_,_,_,p⟩:=(show ObjOk X.prog X.w H s.heap a (.tup xs) from I.hok a _ ea)
  obtain⟨o,h1,h2,_⟩:=p
  exact kia_one kitx_tuple I.kIn ⟨o,h1,h2⟩ e (fun z=>nomatch z) h
 | @dK a kvs ea =>
  cases (show u=Value.ref a from rx)
  obtain⟨_,_,vs,_,p⟩:=(show ObjOk X.prog X.w H s.heap a (.dK kvs) from I.hok a _ ea)
  obtain⟨o,es,ep,h1,h2,_⟩:=p
  exact kia_one kitx_dict I.kIn ⟨o,h1,h2.1⟩ e (fun z=>nomatch z) h
 | @dT a kvs ea =>
  cases (show u=Value.ref a from rx)
  obtain⟨_,_,xs,_,o,es,ep,h1,h2,_⟩:=(show ObjOk X.prog X.w H s.heap a (.dT kvs) from I.hok a _ ea)
  exact kia_one kitx_dict I.kIn ⟨o,h1,h2.1⟩ e (fun z=>nomatch z) h
 | @ins a C dx fs ea cl ha hn htk hm =>
  cases (show u=Value.ref a from rx)
  obtain⟨mA,O,_⟩:=aF2 I.hok ea
  obtain⟨od,J,_⟩:=O.look
  exact kia_one (PySem.W.kitx_own (cl.get _) cl.hd ha hn htk hm) I.kIn J e (fun z=>nomatch z) h
end
structure Room (k:Nat) (A:Around):Prop where
 hd:A.handled=none
 dp:A.depth+3*k+5 < recursionLimit
 un:A.units+16*k+200 < cLine
theorem Room.mono {j k:Nat}{A:Around}(r:Room k A)(h:j≤k):Room j A:=⟨r.hd,by have:=r.dp;omega,by have:=r.un;omega⟩
theorem Room.deeper {k:Nat}{A:Around}(r:Room (k+1) A)(env:Env):Room k (A.deeper env) :=
 ⟨r.hd,by have:=r.dp;show A.depth+1+3*k+5 < _;omega,by have:=r.un;show A.units+3+16*k+200 < _;omega⟩
theorem bh8 {A:Around}{C:Addr}{us:List Value}{kw:List (Str×Value)}:(A.under (.builtin "type.__call__" ⟨.ref C::us,kw⟩)).depth=A.depth+1:=by
 first | rfl | simp [Around.under,Code.weight,Code.isCreation,Code.isGuard,Code.isCaller,Code.frames,Code.isFrame,guardIds]
theorem bh9 {A:Around}{C:Addr}{us:List Value}{kw:List (Str×Value)}:(A.under (.builtin "type.__call__" ⟨.ref C::us,kw⟩)).units=A.units+1:=by
 first | rfl | simp [Around.under,Code.cUnits,Code.frames,Code.isFrame]
theorem Room.make {k:Nat}{A:Around}(r:Room (k+1) A)(C:Addr)(us:List Value)(kw:List (Str×Value)):Room k (A.under (.builtin "type.__call__" ⟨.ref C::us,kw⟩)) :=
 ⟨r.hd,by have:=r.dp;rw [bh8];omega,by have:=r.un;rw [bh9];omega⟩
theorem Room.depth {k:Nat}{A:Around}(r:Room k A):A.depth < recursionLimit:=by have:=r.dp;omega
theorem Room.units {k:Nat}{A:Around}(r:Room k A):A.units+64 < cLine:=by have:=r.un;omega
def tNil:TA:=fun _ H Q=>Q [] H
def bC2 (ta:TE)(tr:TA):TA:=fun σ H Q=>ta σ H fun x H1=>tr σ H1 fun xs H2=>Q (x::xs) H2
section
variable {X:Cx}{e:Expr}{es:List Expr}{te:TE}{t:TA}{pos:Pos}
theorem aK1:PA X [] tNil:=fun _ _ _ _ H Q I h=>Calls.spliced_nil ⟨[],H,I,.nil,h⟩
theorem ar8 (ha:PE X e te)(hr:PA X es t)(hs:starEach (e::es) X.env=(false,eval e X.env)::starEach es X.env:=by rfl):PA X (e::es) (bC2 te t):=by
 intro pos pins s σ H Q I h
 rw [hs]
 show wpAny _ _ (spliced ((false,eval e X.env)::backTo pos (starEach es X.env))) _ _ s
 refine Calls.spliced_cons (thn (ha pins s σ H _ I h) fun u s1 ⟨x,H1,I1,r1,q1⟩=>?_)
 exact thn (hr pos pins s1 σ H1 _ I1 q1) fun us s2 ⟨xs,H2,I2,r2,q2⟩=>⟨x::xs,H2,I2,.cons r1 r2,q2⟩
def tTup (t:TA):TE:=fun σ H Q=>t σ H fun xs H1=>xs.length≤sizeLine∧∀ p,H1 p=none→Q (.ref p) (upd H1 p (.tup xs))
def tLst (t:TA):TE:=fun σ H Q=>t σ H fun xs H1=>xs.length≤sizeLine∧∀ p,H1 p=none→Q (.ref p) (upd H1 p (.lst xs))
theorem aB5 {x1}(h:PA X es t):PE X (.Tuple es x1 pos) (tTup t):=by
 intro pins s σ H Q I hq
 refine wpAny_Tuple_spliced (thn (h pos pins s σ H _ I hq) fun us s1 ⟨xs,H1,I1,r,z,q⟩=>⟨by rw [← r.length];exact z,?_⟩)
 have hf:H1 s1.heap.objs.size=none:=I1.hok.fresh (le_refl _)
 refine⟨.ref s1.heap.objs.size,upd H1 s1.heap.objs.size (.tup xs),I1.laid (t':=s1.toks) (fun b u e=>Heap.get?_push_of_some _ e) (le_refl _) ?_,rfl,q _ hf⟩
 exact⟨z,us,r,⟨_,Heap.get?_push_size _ rfl,rfl,_,rfl⟩⟩
theorem bP7 (h:PA X es t):PE X (.List es pos) (tLst t):=by
 intro pins s σ H Q I hq
 refine wpAny_List_spliced (thn (h pos pins s σ H _ I hq) fun us s1 ⟨xs,H1,I1,r,z,q⟩=>⟨by rw [← r.length];exact z,?_⟩)
 have hf:H1 s1.heap.objs.size=none:=I1.hok.fresh (le_refl _)
 refine⟨.ref s1.heap.objs.size,upd H1 s1.heap.objs.size (.lst xs),I1.laid (t':=s1.toks) (fun b u e=>Heap.get?_push_of_some _ e) (le_refl _) ?_,rfl,q _ hf⟩
 exact⟨z,us,0,r,Heap.get?_push_size _ rfl⟩
end
abbrev Sp:=List V→Hp→VK→XK→Prop
abbrev CXT:=List Env→Hp→Shared→XK→Value→Shared→Prop
structure Env0 (P:Program) (w:World) (K:PySem.W.Frag) (mg:Str→Option Value) (base:Heap) (A:Around) (outer:List Env) (s:Shared) (H:Hp):Prop where
 frames:A.frames=some outer
 mod:Mod K mg base
 bs:∀ b o,base.get? b=some o→s.heap.get? b=some o∧H b=none
 bsz:base.objs.size≤s.heap.objs.size
 funs:s.heap.FunFrames base outer
 frf:∀ b∈frs outer,H b=none
 hok:HOk P w H s.heap
 bare:AllBare s.gens
def CE (outer:List Env)(P:Program)(w:World)(H:Hp)(s:Shared)(Q:VK)(u:Value)(s':Shared):Prop :=
 ∃ v H',s'.os=s.os∧AllBare s'.gens∧Un (frs outer) [] H H' s.heap s'.heap∧HOk P w H' s'.heap∧RelV v u∧Q v H'
def CR (CX:CXT)(outer:List Env)(P:Program)(w:World)(H:Hp)(s:Shared)(Q:VK)(E:XK)(r:Result)(s':Shared):Prop :=
 match r with
 | .ok (.ret u)=>CE outer P w H s Q u s'
 | .ok _=>False
 | .error e=>CX outer H s E e s'
structure FnOk (P:Program) (w:World) (K:PySem.W.Frag) (mg:Str→Option Value) (base:Heap) (CX:CXT) (k:Nat) (f:Addr) (fd:FuncData) (ps:List Str) (sp:Sp):Prop where
 len:∀ vs H Q E,sp vs H Q E→vs.length=ps.length
 run:∀ (A:Around) (outer:List Env) (s:Shared) (H:Hp) (args:Args) (us:List Value) (vs:List V) (Q:VK) (E:XK),Room k A→Env0 P w K mg base A outer s H→BindsTo s fd args (ps.zip us)→Vals vs us→sp vs H Q E →
  codeAny (model P w) A (.call (.ref f) args) (CR CX outer P w H s Q E) s
theorem FnOk.mono {P:Program}{w:World}{K:PySem.W.Frag}{mg:Str→Option Value}{base:Heap}{CX:CXT}{j k:Nat}{f:Addr}{fd:FuncData}{ps:List Str}{sp:Sp}(F:FnOk P w K mg base CX j f fd ps sp)(h:j≤k) :
  FnOk P w K mg base CX k f fd ps sp:=⟨F.len,fun A outer s H args us vs Q E hr=>F.run A outer s H args us vs Q E (hr.mono h)⟩
theorem Env0.make {P:Program}{w:World}{K:PySem.W.Frag}{mg:Str→Option Value}{base:Heap}{A:Around}{outer:List Env}{s:Shared}{H:Hp}(e:Env0 P w K mg base A outer s H)(C:Addr)(us:List Value)(kw:List (Str×Value)) :
  Env0 P w K mg base (A.under (.builtin "type.__call__" ⟨.ref C::us,kw⟩)) outer s H:=⟨by first | exact e.frames | (simpa [Around.under,Code.envs,Code.isFrame,pushEnvs] using e.frames),e.mod,e.bs,e.bsz,e.funs,e.frf,e.hok,e.bare⟩
section
variable {X:Cx}{pins:List (Addr×Obj)}{σ:St}{H:Hp}{s s':Shared}
theorem Inv.env0 (I:Inv X pins σ H s):Env0 X.prog X.w X.K X.mg X.base X.A X.stack s H :=
 ⟨I.ok.frames,I.ok.mod,I.bs,le_trans I.ok.bsz I.sz,I.stack,I.stkFree,I.hok,I.bare⟩
theorem Inv.after {Q:VK}{u:Value}(I:Inv X pins σ H s)(h:CE X.stack X.prog X.w H s Q u s'):EP X pins σ Q u s':=by
 obtain⟨v,H',os,bare,un,hok,r,q⟩:=h
 obtain⟨hh,g,d,t,os'⟩:=s'
 obtain rfl:os'=s.os:=os
 exact⟨v,H',I.call (h':=hh) (g':=g) (d':=d) (t':=t) (ch:=[]) un hok bare (fun b z=>absurd z (by simp)),r,q⟩
end
def bX8 (sp:Sp)(dvs:List V)(E:XK)(t:TA):TE:=fun σ H Q=>t σ H fun vs H1=>sp (vs++dvs) H1 Q E
def bi0 (C:Addr)(m:Str)(sp:Sp)(dvs:List V)(E:XK)(ta:TE)(t:TA):TE:=fun σ H Q=>ta σ H fun x H1=>∃ a dx fs,x=.ref a∧H1 a=some (.ins C dx fs)∧fs.lookup m=none ∧
 t σ H1 fun vs H2=>sp (x::(vs++dvs)) H2 Q E
def bX9 (C:Addr)(sp:Sp)(dvs:List V)(E:XK)(t:TA):TE:=fun σ H Q=>t σ H fun vs H1=>∀ x dx,H1 x=none→H1 dx=none→dx≠x →
 sp (.ref x::(vs++dvs)) (upd (upd H1 dx (.own x)) x (.ins C dx [])) (fun v H2=>v=.non∧Q (.ref x) H2) E
def Binds (K:PySem.W.Frag)(fd:FuncData)(ps:List Str)(ds:List Value):Prop :=
 ∀ (s:Shared) (us:List Value),K.In s.heap→(us++ds).length=ps.length→BindsTo s fd ⟨us,[]⟩ (ps.zip (us++ds))
theorem Binds.all {K:PySem.W.Frag}{fd:FuncData}{ps:List Str}(h:∀ us:List Value,us.length=ps.length→bindArgs fd ⟨us,[]⟩=pure (ps.zip us)):Binds K fd ps []:=fun s us _ hl=>by
 rw [append_nil] at hl ⊢
 exact .of_eq (h us hl)
def Passes (CX:CXT)(X:Cx)(E:XK):Prop:=∀ (pins:List (Addr×Obj)) (σ:St) (H:Hp) (s:Shared) (e:Value) (s':Shared),Inv X pins σ H s→CX X.stack H s E e s'→X.xe e s'
section
variable {X:Cx}{CX:CXT}{k:Nat}{f C:Addr}{fd:FuncData}{ps:List Str}{sp:Sp}{dvs:List V}{ds:List Value}{E:XK}{x m:Str}{p pos apos:Pos}{e o:Expr}{es:List Expr}{ta:TE}{t:TA}
theorem aU5 {pins:List (Addr×Obj)}{σ:St}{H:Hp}{s:Shared}{Q:VK}{us:List Value}{vs:List V}(F:FnOk X.prog X.w X.K X.mg X.base CX k f fd ps sp)(hr:Room k X.A)(hb:Binds X.K fd ps ds)(hd:Vals dvs ds)(hx:Passes CX X E)
  (I:Inv X pins σ H s) (r:Vals vs us) (h:sp (vs++dvs) H Q E):wpAny (model X.prog X.w) X.A (call (.ref f) us) (EP X pins σ Q) X.xe s:=by
 have r2:Vals (vs++dvs) (us++ds):=r.append hd
 have hl:(us++ds).length=ps.length:=by rw [← r2.length];exact F.len _ _ _ _ h
 refine wpAny_call (codeAny_mono (F.run X.A X.stack s H ⟨us,[]⟩ (us++ds) (vs++dvs) Q E hr I.env0 (hb s us I.kIn hl) r2 h) fun r s' hq=>?_)
 cases r with
 | error e=>exact hx pins σ H s e s' I hq
 | ok fl =>
  cases fl with
  | ret u=>exact I.after hq
  | next=>exact False.elim hq
  | brk=>exact False.elim hq
  | cont=>exact False.elim hq
theorem bc7 (F:FnOk X.prog X.w X.K X.mg X.base CX k f fd ps sp)(hr:Room k X.A)(hg:Gl X x)(hm:X.mg x=some (.ref f))(hk:keepIn X.K (.ref f)=true)(hb:Binds X.K fd ps ds)(hd:Vals dvs ds)(hx:Passes CX X E)
  (ha:PA X (e::es) t) (hdb:(x == ("__debug__" : Str))=false:=by decide) (he:starEach (e::es) X.env=(false,eval e X.env)::starEach es X.env:=by rfl) (hpl:(backTo pos (starEach es X.env)).any (·.1)=false:=by rfl) :
  PE X (.Call (.Name x p) (e::es) [] pos) (bX8 sp dvs E t):=by
 intro pins s σ H Q I h
 refine wpAny_Call_Name_kw (aF1 I hg hm ?_ hdb)
 refine callWith_K (h₀:=X.base) I.ok.mod.kin hk (thn (ha pos pins s σ H _ I h) fun us s1 ⟨vs,H1,I1,r,q⟩=>⟨I1.kIn,?_⟩) he hpl
 exact aU5 F hr hb hd hx I1 r q
theorem bF9 {pl:Sem Bool}(he:PE X o ta)(c:Cls X.K C)(hm:Meth X.K C m f)(F:FnOk X.prog X.w X.K X.mg X.base CX k f fd ps sp)(hr:Room k X.A)(hb:Binds X.K fd ps ds)(hd:Vals dvs ds)(hx:Passes CX X E)(ha:PA X (e::es) t)
  (hst:starEach (e::es) X.env=(false,eval e X.env)::starEach es X.env:=by rfl) (hpl:(backTo pos (starEach es X.env)).any (·.1)=false:=by rfl)
  (ht:eval (.Call (.Attribute o m apos) (e::es) [] pos) X.env=(do
   let ov ← eval o X.env
   standAt apos.atName
   let (f,first) ← holding [ov] (getMethod ov m pl)
   callWith pos f first (backTo pos (starEach (e::es) X.env)) (backToKw pos (keywordEach [] X.env))):=by rfl) :
  PE X (.Call (.Attribute o m apos) (e::es) [] pos) (bi0 C m sp dvs E ta t):=by
 intro pins s σ H Q I h
 refine methodCall_KW (pl:=pl) (thn (he pins s σ H _ I h) fun u s1 ⟨x,H1,I1,rx,a,dx,fs,ex,ea,l,q⟩=>?_) ht
 subst ex
 obtain rfl:u=Value.ref a:=rx
 refine ay3 I1 ea c hm l ?_
 refine callWith_K (first:=[.ref a]) (h₀:=X.base) I.ok.mod.kin hm.kp (thn (ha pos pins s1 σ H1 _ I1 q) fun us s2 ⟨vs,H2,I2,r,q2⟩=>⟨I2.kIn,?_⟩) hst hpl
 exact aU5 (us:=.ref a::us) (vs:=.ref a::vs) F hr hb hd hx I2 (.cons rfl r) q2
theorem bu8 {pl:Sem Bool}(he:PE X o ta)(c:Cls X.K C)(hm:Meth X.K C m f)(F:FnOk X.prog X.w X.K X.mg X.base CX k f fd ps sp)(hr:Room k X.A)(hb:Binds X.K fd ps ds)(hd:Vals dvs ds)(hx:Passes CX X E)
  (ht:eval (.Call (.Attribute o m apos) [] [] pos) X.env=(do
   let ov ← eval o X.env
   standAt apos.atName
   let (f,first) ← holding [ov] (getMethod ov m pl)
   callWith pos f first (backTo pos (starEach [] X.env)) (backToKw pos (keywordEach [] X.env))):=by rfl) :
  PE X (.Call (.Attribute o m apos) [] [] pos) (bi0 C m sp dvs E ta tNil):=by
 intro pins s σ H Q I h
 refine methodCall_KW (pl:=pl) (thn (he pins s σ H _ I h) fun u s1 ⟨x,H1,I1,rx,a,dx,fs,ex,ea,l,q⟩=>?_) ht
 subst ex
 obtain rfl:u=Value.ref a:=rx
 refine ay3 I1 ea c hm l ?_
 exact PySem.W.callWith_K0 (first:=[.ref a]) I1.kIn hm.kp (aU5 (us:=[.ref a]) (vs:=[.ref a]) F hr hb hd hx I1 (.cons rfl .nil) q)
structure Mk (K:PySem.W.Frag) (C f:Addr):Prop where
 makes:makesIn K C=true
 init:findIn K (.ref C) "__init__"=some (some (.ref f))
 fn:isFn K (.ref f)=true
 kp:keepIn K (.ref C)=true
theorem bu9 {pins:List (Addr×Obj)}{σ:St}{H:Hp}{s:Shared}{Q:VK}{us:List Value}{vs:List V}(M:Mk X.K C f)(F:FnOk X.prog X.w X.K X.mg X.base CX k f fd ps sp)(hr:Room (k+1) X.A)(hb:Binds X.K fd ps ds)(hd:Vals dvs ds)
  (hx:Passes CX X E) (I:Inv X pins σ H s) (r:Vals vs us)
  (h:∀ x dx,H x=none→H dx=none→dx≠x→sp (.ref x::(vs++dvs)) (upd (upd H dx (.own x)) x (.ins C dx [])) (fun v H2=>v=.non∧Q (.ref x) H2) E) :
  wpAny (model X.prog X.w) X.A (call (.ref C) us) (EP X pins σ Q) X.xe s:=by
 have hq:=h (s.heap.objs.size+1) s.heap.objs.size (I.hok.fresh (le_succ _)) (I.hok.fresh (le_refl _)) (ne_of_lt (Nat.lt_succ_self _))
 have I2:=Inv.made (C:=C) I
 have r2:Vals (V.ref (s.heap.objs.size+1)::(vs++dvs)) (Value.ref (s.heap.objs.size+1)::(us++ds)):=.cons rfl (r.append hd)
 have hl:(Value.ref (s.heap.objs.size+1)::us++ds).length=ps.length:=by
  have e:=r2.length
  rw [F.len _ _ _ _ hq] at e
  exact e.symm
 refine wpAny_call (bu7 (f:=f) I.kIn M.makes M.init (beq_iff_eq.mp M.fn) (codeAny_mono (F.run _ X.stack _ _ ⟨Value.ref (s.heap.objs.size+1)::us,[]⟩ (Value.ref (s.heap.objs.size+1)::(us++ds)) _ _ E (hr.make C us [])
  (I2.env0.make C us []) (hb _ (Value.ref (s.heap.objs.size+1)::us) I2.kIn hl) r2 hq) fun r s' hq'=>?_))
 cases r with
 | error e=>exact hx pins σ _ _ e s' I2 hq'
 | ok fl =>
  cases fl with
  | ret u =>
   obtain⟨v,H',I3,rv,ev,q3⟩:=I2.after hq'
   subst ev
   exact⟨rv,⟨V.ref (s.heap.objs.size+1),H',I3,rfl,q3⟩⟩
  | next=>exact False.elim hq'
  | brk=>exact False.elim hq'
  | cont=>exact False.elim hq'
theorem bG0 (M:Mk X.K C f)(F:FnOk X.prog X.w X.K X.mg X.base CX k f fd ps sp)(hr:Room (k+1) X.A)(hg:Gl X x)(hm:X.mg x=some (.ref C))(hb:Binds X.K fd ps ds)(hd:Vals dvs ds)(hx:Passes CX X E)
  (ha:PA X (e::es) t) (hdb:(x == ("__debug__" : Str))=false:=by decide) (he:starEach (e::es) X.env=(false,eval e X.env)::starEach es X.env:=by rfl) (hpl:(backTo pos (starEach es X.env)).any (·.1)=false:=by rfl) :
  PE X (.Call (.Name x p) (e::es) [] pos) (bX9 C sp dvs E t):=by
 intro pins s σ H Q I h
 refine wpAny_Call_Name_kw (aF1 I hg hm ?_ hdb)
 refine callWith_K (h₀:=X.base) I.ok.mod.kin M.kp (thn (ha pos pins s σ H _ I h) fun us s1 ⟨vs,H1,I1,r,q⟩=>⟨I1.kIn,?_⟩) he hpl
 exact bu9 M F hr hb hd hx I1 r q
end
structure FnScope (N P:List Str) (sc:Scope):Prop where
 kind:sc.kind=.function
 co:sc.isCoroutine=false
 gen:sc.isGenerator=false
 nd:N.Nodup
 pre:N.take P.length=P
 par:∀ x∈P,sc.names.lookup x=some .local∨sc.names.lookup x=some .cell
 nofree:∀ y∈sc.names,y.2≠.free
theorem aQ6 {kindOf:Str→Option NameKind}{x:Str}:∀ {binds:List (Str×Value)} {m:Str→Option Value},(∀ v,(x,v) ∉ binds)→bindL kindOf binds m x=m x
 | [],_,_=>rfl
 | (n,v)::r,m,h=>by
  unfold bindL
  rw [aQ6 fun w hw=>h w (mem_cons_of_mem _ hw)]
  split
  ·have:x≠n:=by rintro rfl;exact h v mem_cons_self
   simp [this]
  ·rfl
theorem aQ7 {kindOf:Str→Option NameKind}{x:Str}:∀ {binds:List (Str×Value)} {m:Str→Option Value},(∀ v,(x,v) ∉ binds)→bindC kindOf binds m x=m x
 | [],_,_=>rfl
 | (n,v)::r,m,h=>by
  unfold bindC
  rw [aQ7 fun w hw=>h w (mem_cons_of_mem _ hw)]
  split
  ·rfl
  ·have:x≠n:=by rintro rfl;exact h v mem_cons_self
   simp [this]
theorem aQ8 {kindOf:Str→Option NameKind}{x:Str}{v:Value}:∀ {P:List Str} {vs:List Value} {i:Nat} {m:Str→Option Value},P.Nodup→P[i]?=some x→vs[i]?=some v→kindOf x=some .local →
  bindL kindOf (P.zip vs) m x=some v
 | [],_,_,_,_,h,_,_=>by simp at h
 | _::_,[],_,_,_,_,h,_=>by simp at h
 | p::P,w::vs,0,m,nd,h1,h2,hk=>by
  simp at h1 h2;subst h1;subst h2
  show bindL kindOf ((p,w)::P.zip vs) m p=_
  unfold bindL
  rw [aQ6 fun v hv=>(nodup_cons.mp nd).1 (of_mem_zip hv).1,if_pos hk]
  simp
 | p::P,w::vs,i+1,m,nd,h1,h2,hk=>by
  show bindL kindOf ((p,w)::P.zip vs) m x=_
  unfold bindL
  exact aQ8 (i:=i) (nodup_cons.mp nd).2 (by simpa using h1) (by simpa using h2) hk
theorem aQ9 {kindOf:Str→Option NameKind}{x:Str}{v:Value}:∀ {P:List Str} {vs:List Value} {i:Nat} {m:Str→Option Value},P.Nodup→P[i]?=some x→vs[i]?=some v→kindOf x≠some .local →
  bindC kindOf (P.zip vs) m x=some v
 | [],_,_,_,_,h,_,_=>by simp at h
 | _::_,[],_,_,_,_,h,_=>by simp at h
 | p::P,w::vs,0,m,nd,h1,h2,hk=>by
  simp at h1 h2;subst h1;subst h2
  show bindC kindOf ((p,w)::P.zip vs) m p=_
  unfold bindC
  rw [aQ7 fun v hv=>(nodup_cons.mp nd).1 (of_mem_zip hv).1,if_neg hk]
  simp
 | p::P,w::vs,i+1,m,nd,h1,h2,hk=>by
  show bindC kindOf ((p,w)::P.zip vs) m x=_
  unfold bindC
  exact aQ9 (i:=i) (nodup_cons.mp nd).2 (by simpa using h1) (by simpa using h2) hk
def start (N:List Str)(vs:List V):St:=vs.map some++replicate (N.length - vs.length) none
def cxOf (CX:CXT)(P:Program)(w:World)(K:PySem.W.Frag)(mg:Str→Option Value)(base:Heap)(N:List Str)(qual:Str)(scope:Scope)(f:Addr)(cd:Value)(A:Around)(outer:List Env)(s:Shared)(H:Hp)(E:XK):Cx where
 prog:=P
 w:=w
 K:=K
 mg:=mg
 base:=base
 A:=A.deeper (envOfC qual scope s.heap.objs.size f cd)
 N:=N
 s₀:=s
 H₀:=H
 env:=envOfC qual scope s.heap.objs.size f cd
 outer:=outer
 stack:=envOfC qual scope s.heap.objs.size f cd::outer
 ex:=[]
 calm:=true
 fn:=fun _=>true
 pn:=[]
 xe:=fun e s'=>wpAny (model P w) (A.deeper (envOfC qual scope s.heap.objs.size f cd)) (leaving (envOfC qual scope s.heap.objs.size f cd) e) (fun _ s''=>CX outer H s E e s'') (fun e' s''=>CX outer H s E e' s'') s'
theorem aU6 {sc:Scope}{n:Nat}{x:Str}(h:sc.names.lookup x=some .cell):∃ c,(cellsFrom n sc.names []).lookup x=some c:=by
 have q:=cellsFrom_some sc.names n [] (.inl h)
 exact Option.isSome_iff_exists.mp q
theorem bm5 {CX:CXT}{P:Program}{w:World}{K:PySem.W.Frag}{mg:Str→Option Value}{base:Heap}{N ps:List Str}{qual:Str}{scope:Scope}{f:Addr}{cd:Value}{A:Around}{outer:List Env}{s s1:Shared}{H:Hp}{E:XK}{us:List Value}{vs:List V}
  (S:FnScope N ps scope) (hd:A.handled=none) (e0:Env0 P w K mg base A outer s H) (hl:vs.length=ps.length) (r:Vals vs us)
  (x:InCallC s s.heap.objs.size (bindL (envOfC qual scope s.heap.objs.size f cd).kindOf (ps.zip us) fun _=>none) (cellsFrom (s.heap.objs.size+1) scope.names []) (bindC (envOfC qual scope s.heap.objs.size f cd).kindOf (ps.zip us) fun _=>none) s1) :
  Inv (cxOf CX P w K mg base N qual scope f cd A outer s H E) [] (start N vs) H s1:=by
 have hpl:ps.length≤N.length:=by have:=congrArg length S.pre;rw [length_take] at this;omega
 obtain⟨h1,tk,rfl,hk⟩:=x.done
 have noA:∀ b:Addr,b ∉ (cxOf CX P w K mg base N qual scope f cd A outer s H E).ex:=fun b z=>absurd (show b∈([]:List Addr) from z) (by simp)
 refine⟨⟨e0.mod,S.kind,rfl,rfl,le_refl _,fun y z c h1 h2=>?_,fun y hy=>?_,fun y c _ h=>?_,fun _=>hd,Around.frames_deeper e0.frames,.inr ⟨rfl,rfl⟩,fun b z=>absurd z (noA b),e0.bs,e0.bsz,fun b _ _=>noA b,fun b z=>absurd z (noA b),e0.funs,e0.frf⟩,
  rfl,e0.bare,Un.kept hk,⟨_,x.toInCall.ns,fun i y v h1 h2 h3=>?_⟩,fun y c h=>⟨_,x.cell y c h⟩,e0.hok.fresh (le_refl _),fun y c h=>?_,fun p hp=>absurd (show p∈([]:List (Addr×Obj)) from hp) (by simp),e0.hok.kept hk,?_⟩
 ·exact name_of_addr x.apart (PySem.mem_of_lookup h1) (PySem.mem_of_lookup h2)
 ·have hy:scope.names.lookup y=some .cell∨scope.names.lookup y=some .free:=hy
  rcases hy with hy | hy
  ·exact aU6 hy
  ·exact absurd rfl (S.nofree _ (PySem.mem_of_lookup hy))
 ·exact le_of_lt (x.above y c (PySem.mem_of_lookup h))
 ·have hi:i < vs.length:=by
   unfold start at h2
   by_cases hi:i < vs.length
   ·exact hi
   ·rw [getElem?_append_right (by simpa using hi)] at h2
    rw [getElem?_replicate] at h2
    split at h2 <;> cases h2
  have ha:vs[i]?=some v:=by
   unfold start at h2
   rw [getElem?_append_left (by simpa using hi),getElem?_map] at h2
   cases e:vs[i]? with
   | none=>rw [e] at h2;cases h2
   | some a=>rw [e] at h2;cases h2;rfl
  obtain⟨u,hu,rv⟩:=r.get ha
  have hp:ps[i]?=some y:=by
   rw [← S.pre,List.getElem?_take_of_lt (by omega)];exact h1
  have ndP:ps.Nodup:=by rw [← S.pre];exact S.nd.sublist (List.take_sublist _ _)
  refine⟨u,rv,?_⟩
  rcases S.par y (mem_of_getElem? hp) with k | k
  ·exact .inl ⟨k,aQ8 ndP hp hu k⟩
  ·obtain⟨c,e⟩:=aU6 (n:=s.heap.objs.size+1) k
   refine .inr ⟨.inl k,c,e,?_⟩
   have q:=x.cell y c e
   rw [aQ9 ndP hp hu (by show scope.names.lookup y≠_;rw [k];decide)] at q
   exact q
 ·exact e0.hok.fresh (le_of_lt (x.above y c (PySem.mem_of_lookup h)))
 ·unfold start
  show _=N.length
  rw [length_append,length_map,length_replicate]
  omega
theorem bY0 {CX:CXT}{P:Program}{w:World}{K:PySem.W.Frag}{mg:Str→Option Value}{base:Heap}{k:Nat}{f:Addr}{name qual:Str}{params:Arguments}{body:List Stmt}{scope:Scope}{dV kV doc pm cdv ct oc:Value}{an od:Option Addr}
  {osl:Array (Option Value)} {N ps:List Str} {sp:Sp} (lk:K.lookup f=some ⟨oc,od,.func (fnOf name qual params body scope dV kV doc pm an cdv ct),osl⟩) (hcd:codeIn K cdv qual=true) (S:FnScope N ps scope)
  (len:∀ vs H Q E,sp vs H Q E→vs.length=ps.length)
  (hbody:∀ (A:Around) (outer:List Env) (s:Shared) (H:Hp) (vs:List V) (Q:VK) (E:XK),Room k (A.deeper (envOfC qual scope s.heap.objs.size f cdv))→sp vs H Q E →
   ∃ t,PSs (cxOf CX P w K mg base N qual scope f cdv A outer s H E) body t∧t { nx:=fun _ H'=>Q .non H',rt:=Q } (start N vs) H) :
  FnOk P w K mg base CX (k+1) f (fnOf name qual params body scope dV kV doc pm an cdv ct) ps sp:=by
 refine⟨len,fun A outer s H args us vs Q E hr e0 hb r hsp=>?_⟩
 have hl:=len _ _ _ _ hsp
 have KX:K.In s.heap:=e0.mod.kin.keeps fun b o e=>(e0.bs b o e).1
 have lim:s.heap.NoLimit:=e0.mod.nolimit.keeps fun b o e=>(e0.bs b o e).1
 have hkind:∀ y∈ps.zip us,scope.names.lookup y.1=some .local∨(scope.names.lookup y.1=some .cell∧((cellsFrom (s.heap.objs.size+1) scope.names []).lookup y.1).isSome=true):=fun ⟨n,v⟩ hy=>by
  rcases S.par n (of_mem_zip hy).1 with q | q
  ·exact .inl q
  ·exact .inr ⟨q,cellsFrom_some _ _ _ (.inl q)⟩
 refine codeAny_call_function hr.depth (KX _ _ lk) rfl S.co S.gen rfl (PySem.W.codeRec_of KX hcd) (hb _ _ _ _ ?_)
 refine wpAny_newFunctionEnv_cells S.kind hkind fun env he s1 x=>?_
 subst he
 refine⟨lim.keeps x.toInCall.keep,codeAny_func ?_⟩
 obtain⟨t,ht,hq⟩:=hbody A outer s H vs Q E (hr.deeper _) hsp
 have I:Inv (cxOf CX P w K mg base N qual scope f cdv A outer s H E) [] (start N vs) H s1:=bm5 S hr.hd e0 hl r x
 refine wpAny_mono (ht [] s1 (start N vs) H _ I hq) (fun fl s' hs=>?_) fun e s' hs=>hs
 have fin:∀ {σ':St} {H':Hp} {v:V} {u:Value},Inv (cxOf CX P w K mg base N qual scope f cdv A outer s H E) [] σ' H' s'→RelV v u→Q v H'→CE outer P w H s Q u s' :=
  fun {σ' H' v u} J rv q=>⟨v,H',J.os,J.bare,J.base,J.hok,rv,q⟩
 cases fl with
 | ret u =>
  obtain⟨v,σ',H',J,rv,q⟩:=hs
  exact fin J rv q
 | next =>
  obtain⟨σ',H',J,q⟩:=hs
  exact fin (v:=V.non) (u:=Value.none) J rfl q
 | brk =>
  obtain⟨_,_,_,q⟩:=hs
  exact False.elim q
 | cont =>
  obtain⟨_,_,_,q⟩:=hs
  exact False.elim q
section
variable {X:Cx}{x:Str}{p pos:Pos}{e:Expr}{es:List Expr}{t:TA}{id T:String}{r:List V→Hp→VK→Prop}
def tCB (r:List V→Hp→VK→Prop)(t:TA):TE:=fun σ H Q=>t σ H fun vs H1=>r vs H1 Q
theorem as8 (hc:ai5 X (.builtin id) r)(hg:Gl X x)(hm:X.mg x=none)(hv:bootBuiltins x=some (.builtin id))(ha:PA X (e::es) t)(hn:x≠"__name__":=by decide)(hdb:(x == ("__debug__" : Str))=false:=by decide)
  (he:starEach (e::es) X.env=(false,eval e X.env)::starEach es X.env:=by rfl) (hpl:(backTo pos (starEach es X.env)).any (·.1)=false:=by rfl):PE X (.Call (.Name x p) (e::es) [] pos) (tCB r t):=by
 intro pins s σ H Q I h
 refine wpAny_Call_Name_kw (as7 I hg hm hv ?_ hn hdb)
 exact PyProof.Rows.callWith_builtin1 (thn (ha pos pins s σ H _ I h) fun us s1 ⟨vs,H1,I1,r1,q1⟩=>hc pins s1 σ H1 vs us Q I1 r1 q1) he hpl
theorem aR0 (hc:ai5 X (.type T) r)(hg:Gl X x)(hm:X.mg x=none)(hv:bootBuiltins x=some (.type T))(ha:PA X (e::es) t)(hn:x≠"__name__":=by decide)(hdb:(x == ("__debug__" : Str))=false:=by decide)
  (he:starEach (e::es) X.env=(false,eval e X.env)::starEach es X.env:=by rfl) (hpl:(backTo pos (starEach es X.env)).any (·.1)=false:=by rfl):PE X (.Call (.Name x p) (e::es) [] pos) (tCB r t):=by
 intro pins s σ H Q I h
 refine wpAny_Call_Name_kw (as7 I hg hm hv ?_ hn hdb)
 exact PyProof.Rows.callWith_type1 (thn (ha pos pins s σ H _ I h) fun us s1 ⟨vs,H1,I1,r1,q1⟩=>hc pins s1 σ H1 vs us Q I1 r1 q1) he hpl
end
end L2
namespace HT
open PySem PyProof.Rows
theorem rcLt_int (A:Around)(s:Shared)(a:Int)(t:Tok)(c:Int)(u:Tok)(prog:Program)(w:World)(E:Value→Shared→Prop)(Q:Value→Shared→Prop)(h:Q (.bool (decide (a < c))) s) :
  wpAny (model prog w) A (richCompare .Lt (.int a t) (.int c u)) Q E s :=
 (PyProof.Rows.lt_int h:wpAny (model prog w) A (compareOp .Lt (.int a t) (.int c u)) Q E s)
section
variable {prog:Program}{w:World}{A:Around}{E:Value→Shared→Prop}{s:Shared}
def sIx (n d:Nat):Option Int→Nat
 | none=>d
 | some v=>if v < 0 then (v+(n:Int)).toNat else min v.toNat n
theorem sIx_none (n d:Nat):sIx n d none=d:=rfl
theorem sIx_nat (n d k:Nat):sIx n d (some (k:Int))=min k n:=by
 show (if (k:Int) < 0 then ((k:Int)+(n:Int)).toNat else min (k:Int).toNat n)=min k n
 rw [if_neg (by omega),toNat_natCast]
end
end HT
namespace L2
open PySem PySem.Spec PyProof.Rows
abbrev TO:=St→Hp→(Option Int→Hp→Prop)→Prop
def PO (X:Cx)(e:Option Expr)(t:TO):Prop :=
 ∀ (pins:List (Addr×Obj)) (s:Shared) (σ:St) (H:Hp) (Q:Option Int→Hp→Prop),Inv X pins σ H s→t σ H Q →
  wpAny (model X.prog X.w) X.A (evalPart e X.env) (fun u s'=>∃ o H',Inv X pins σ H' s'∧IsPart u o∧Q o H') X.xe s
def bG1:TO:=fun _ H Q=>Q none H
def bY1 (t:TE):TO:=fun σ H Q=>t σ H fun x H1=>∃ i,x=.int i∧Q (some i) H1
section
variable {X:Cx}{e:Expr}{te:TE}{lo hi:Option Expr}{tl th:TO}{pos p2:Pos}
theorem bG2:PO X none bG1:=by
 intro pins s σ H Q I h
 rw [evalPart_none]
 exact wpAny_pure ⟨none,H,I,.none,h⟩
theorem bG3 (h:PE X e te):PO X (some e) (bY1 te):=by
 intro pins s σ H Q I hw
 rw [evalPart_some]
 refine thn (h pins s σ H _ I hw) fun u s1 ⟨x,H1,I1,r1,q1⟩=>?_
 obtain⟨i,rfl,q⟩:=q1
 obtain⟨t,rfl⟩:=r1
 exact⟨some i,H1,I1,.int i t,q⟩
def SlR (X:Cx)(r:V→Option Int→Option Int→Hp→VK→Prop):Prop :=
 ∀ (pins:List (Addr×Obj)) (s:Shared) (σ:St) (H:Hp) (x:V) (v vl vu:Value) (lo hi:Option Int) (sl:Addr) (Q:VK),Inv X pins σ H s→RelV x v→s.heap.IsSliceOf sl vl vu .none→IsPart vl lo→IsPart vu hi→r x lo hi H Q →
  ∃ T id,typeLookup (.type T) "__getitem__"=pure (some (.builtin id))∧s.TypeIs v T∧wpAny (model X.prog X.w) X.A (getItem v (.ref sl)) (EP X pins σ Q) X.xe s
def tSl (r:V→Option Int→Option Int→Hp→VK→Prop)(te:TE)(tl th:TO):TE:=fun σ H Q=>te σ H fun x H1=>tl σ H1 fun l H2=>th σ H2 fun u H3=>r x l u H3 Q
theorem bv0 {r:V→Option Int→Option Int→Hp→VK→Prop}(hr:SlR X r)(he:PE X e te)(hl:PO X lo tl)(hu:PO X hi th):PE X (.Subscript e (.Slice lo hi none p2) pos) (tSl r te tl th):=by
 intro pins s σ H Q I h
 refine Subscript_ (thn (he pins s σ H _ I h) fun v s1 ⟨x,H1,I1,r1,q1⟩=>?_)
 refine wpAny_Slice (thn (hl pins s1 σ H1 _ I1 q1) fun vl s2 ⟨l,H2,I2,pl,q2⟩=>thn (hu pins s2 σ H2 _ I2 q2) fun vu s3 ⟨u,H3,I3,pu,q3⟩=>?_)
 rw [evalPart_none]
 refine wpAny_pure ?_
 have I4:Inv X pins σ H3 { s3 with heap:=s3.heap.push { cls:=.type "slice",data:=.fields #[vl,vu,.none] } }:=I3.kept (t':=s3.toks) fun b ob q=>Heap.get?_push_of_some _ q
 obtain⟨T,id,hT,ht,hg⟩:=hr pins { s3 with heap:=s3.heap.push { cls:=.type "slice",data:=.fields #[vl,vu,.none] } } σ H3 x v vl vu l u s3.heap.objs.size Q I4 r1 (Heap.IsSliceOf.new ..) pl pu q3
 show wpAny (model X.prog X.w) X.A (subscriptTail e (.Slice lo hi none p2) v (.ref s3.heap.objs.size)) (EP X pins σ Q) X.xe { s3 with heap:=s3.heap.push { cls:=.type "slice",data:=.fields #[vl,vu,.none] } }
 exact tail_any (ops:=[.ref s3.heap.objs.size,v]) ht hT hg (by with_unfolding_all rfl)
def cutV (xs:List V)(lo hi:Option Int):List V:=(xs.drop (HT.sIx xs.length 0 lo)).take (HT.sIx xs.length xs.length hi - HT.sIx xs.length 0 lo)
theorem ba7 (xs:List V)(lo hi:Option Int):(cutV xs lo hi).length≤xs.length:=by
 unfold cutV
 rw [length_take,length_drop]
 omega
end
def ixN (n:Nat)(i:Int):Option Nat:=if 0≤i then (if i < n then some i.toNat else none) else if -(n:Int)≤i then some (i+n).toNat else none
def atI {α:Type}(xs:List α)(i:Int):Option α:=(ixN xs.length i).bind fun j=>xs[j]?
theorem bc8 {n:Nat}{i:Int}{j:Nat}(h:ixN n i=some j):seqIndex? i n=some j∧j < n∧-(n:Int)≤i∧i < n:=by
 unfold ixN at h
 by_cases h0:0≤i
 ·rw [if_pos h0] at h
  by_cases h1:i < n
  ·rw [if_pos h1] at h
   have e:i.toNat=j:=Option.some.inj h
   exact⟨by rw [seqIndex_of h0 h1,e],by omega,by omega,h1⟩
  ·rw [if_neg h1] at h;cases h
 ·rw [if_neg h0] at h
  by_cases h1:-(n:Int)≤i
  ·rw [if_pos h1] at h
   have e:(i+n).toNat=j:=Option.some.inj h
   exact⟨by rw [seqIndex_neg (by omega) h1,e],by omega,h1,by omega⟩
  ·rw [if_neg h1] at h;cases h
theorem aN6 {α:Type}{xs:List α}{i:Int}{v:α}(h:atI xs i=some v):∃ j,seqIndex? i xs.length=some j∧xs[j]?=some v∧j < xs.length∧-(xs.length:Int)≤i∧i < xs.length:=by
 unfold atI at h
 cases e:ixN xs.length i with
 | none=>rw [e] at h;cases h
 | some j =>
  rw [e] at h
  obtain⟨h1,h2,h3,h4⟩:=bc8 e
  exact⟨j,h1,h,h2,h3,h4⟩
theorem ag5 {α:Type}{xs:List α}{j:Nat}{v:α}(h:xs[j]?=some v):atI xs (j:Int)=some v:=by
 have hj:j < xs.length:=(List.getElem?_eq_some_iff.mp h).1
 have e:ixN xs.length (j:Int)=some j:=by
  unfold ixN
  rw [if_pos (by omega),if_pos (by omega)];simp
 unfold atI;rw [e];exact h
theorem ay4 {α:Type}(xs:List α)(v:α):atI (xs++[v]) (-1)=some v:=by
 have hl:(xs++[v]).length=xs.length+1:=by simp
 have e:ixN (xs++[v]).length (-1)=some xs.length:=by
  unfold ixN
  rw [hl,if_neg (by decide),if_pos (by omega)]
  congr 1
  omega
 unfold atI
 rw [e]
 show (xs++[v])[xs.length]?=some v
 simp
def av9 (b:Expr):Prop:=∀ o i,subscripted b false o i=operate [o,i] (getItem o i)
def IxR (X:Cx)(r:R2):Prop :=
 ∀ (value slice:Expr) (pins:List (Addr×Obj)) (s:Shared) (σ:St) (H:Hp) (x y:V) (v u:Value) (Q:VK),Inv X pins σ H s→RelV x v→RelV y u→r x y H Q →
  subscripted slice false v u=operate [v,u] (getItem v u)→wpAny (model X.prog X.w) X.A (subscriptTail value slice v u) (EP X pins σ Q) X.xe s
def MtR (X:Cx)(id:String)(r:V→List V→Hp→VK→Prop):Prop :=
 ∀ (pins:List (Addr×Obj)) (s:Shared) (σ:St) (H:Hp) (x:V) (xs:List V) (v:Value) (us:List Value) (Q:VK),Inv X pins σ H s→RelV x v→Vals xs us→r x xs H Q →
  wpAny (model X.prog X.w) X.A (call (.builtin id) (v::us)) (EP X pins σ Q) X.xe s
section
variable {X:Cx}{a b:Expr}{ta tb:TE}{pos:Pos}
theorem bC3 {r:R2}(hr:IxR X r)(ha:PE X a ta)(hb:PE X b tb)(hs:av9 b):PE X (.Subscript a b pos) (tOp r ta tb):=by
 intro pins s σ H Q I h
 exact Subscript_ (binT ha hb I h fun v u s2 x y H2 I2 rx ry q=>hr a b pins s2 σ H2 x y v u Q I2 rx ry q (hs _ _))
def rIxL (K:PySem.W.Frag):R2:=fun x y H Q=>∃ p xs i v,x=.ref p∧y=.int i∧SqL K H p xs∧atI xs i=some v∧Q v H
def rIxT (K:PySem.W.Frag):R2:=fun x y H Q=>∃ p xs i v,x=.ref p∧y=.int i∧SqT K H p xs∧atI xs i=some v∧Q v H
theorem aN7:IxR X (rIxL X.K):=by
 intro value slice pins s σ H x y v u Q I rx ry h hs
 obtain⟨p,xs,i,z,rfl,rfl,hq,he,q⟩:=h
 cases rx
 obtain⟨t,rfl⟩:=ry
 obtain⟨its,r,pl,hz⟩:=I.list hq
 obtain⟨j,h1,h2,h3,h4,h5⟩:=aN6 he
 obtain⟨w,ew,rw'⟩:=r.get h2
 have hl:=r.length
 have hn:=aB3
 have fin:EP X pins σ Q w s:=⟨z,H,I,rw',q⟩
 by_cases h0:0≤i
 ·have hj:i.toNat=j:=by
   rw [seqIndex_of h0 h5] at h1
   exact Option.some.inj h1
  exact item_listR pl.isList h0 (by omega) (by rw [hj];simpa using ew) fin hs
 ·have hj:(i+(its.toArray.size:Int)).toNat=j:=by
   rw [seqIndex_neg (by omega) h4] at h1
   rw [size_toArray,← hl]
   exact Option.some.inj h1
  exact subscriptTail_builtinR (x:=w) pl.isList.typeIs slot_list_getitem.lookup
   (wpAny_getItem_list_neg (Q:=fun r s'=>r=w∧EP X pins σ Q r s') pl.isList (by omega) (by rw [size_toArray] <;> omega) (by omega) (by rw [hj];simpa using ew) ⟨rfl,fin⟩) hs
theorem bP8:IxR X (rIxT X.K):=by
 intro value slice pins s σ H x y v u Q I rx ry h hs
 obtain⟨p,xs,i,z,rfl,rfl,hq,he,q⟩:=h
 cases rx
 obtain⟨t,rfl⟩:=ry
 obtain⟨its,r,pl,hz⟩:=I.tuple hq
 obtain⟨j,h1,h2,h3,h4,h5⟩:=aN6 he
 obtain⟨w,ew,rw'⟩:=r.get h2
 have hl:=r.length
 have hn:=aB3
 have fin:EP X pins σ Q w s:=⟨z,H,I,rw',q⟩
 exact subscriptTail_builtinR (x:=w) pl.typeIs slot_tuple_getitem.lookup
  (getItem_tuple (j:=j) (Q:=fun r s'=>r=w∧EP X pins σ Q r s') pl (by omega) (by omega) (by rw [size_toArray,← hl];exact h1) (by simpa using ew) ⟨rfl,fin⟩) hs
theorem bi1 (its:List Value)(n j:Nat)(u:Value):Obj.mapSeq (·.setIfInBounds j u) { cls:=.type "list",data:=.seq its.toArray n }={ cls:=.type "list",data:=.seq (its.set j u).toArray n }:=by
 simp [Obj.mapSeq]
theorem Inv.lst {pins:List (Addr×Obj)}{σ:St}{H:Hp}{s:Shared}{p:Addr}{xs:List V}(I:Inv X pins σ H s)(h:H p=some (.lst xs)) :
  ∃ (its:List Value) (n:Nat),Vals xs its∧s.heap.get? p=some { cls:=.type "list",data:=.seq its.toArray n }∧xs.length≤sizeLine:=by
 obtain⟨z,its,n,r,e⟩:=I.hok p _ h
 exact⟨its,n,r,e,z⟩
theorem Inv.lstUpd {pins:List (Addr×Obj)}{σ:St}{H:Hp}{s:Shared}{p:Addr}{xs ys:List V}{its its':List Value}{n n':Nat}{f:Obj→Obj}(I:Inv X pins σ H s)(h:H p=some (.lst xs))
  (ho:s.heap.get? p=some { cls:=.type "list",data:=.seq its.toArray n }) (hf:f { cls:=.type "list",data:=.seq its.toArray n }={ cls:=.type "list",data:=.seq its'.toArray n' }) (r:Vals ys its') (hz:ys.length≤sizeLine) (t:Nat) :
  Inv X pins σ (upd H p (.lst ys)) { s with heap:=s.heap.update p f,toks:=t }:=by
 have e:(s.heap.update p f).get? p=some { cls:=.type "list",data:=.seq its'.toArray n' }:=by
  rw [Heap.get?_update_self f ho (by rw [hf] <;> rfl),hf]
 refine I.write (x:=p) (e:=p) (by rw [h];trivial) (.inl rfl) (fun b u hb q=>(Heap.get?_update_other _ _ (Ne.symm hb)).trans q) ⟨_,e⟩ ?_
 exact⟨hz,its',n',r,e⟩
def bY2:V→V→V→Hp→(Hp→Prop)→Prop:=fun o i v H Q=>∃ p xs k j,o=.ref p∧i=.int k∧H p=some (.lst xs)∧ixN xs.length k=some j∧Q (upd H p (.lst (xs.set j v)))
theorem set_list:PSet X bY2:=by
 intro pins s σ H o i v ov iv u Q I ro ri rv h
 obtain⟨p,xs,k,j,rfl,rfl,hp,hj,q⟩:=h
 cases ro
 obtain⟨t,rfl⟩:=ri
 obtain⟨its,n,r,ho,hz⟩:=I.lst hp
 obtain⟨h1,h2,h3,h4⟩:=bc8 hj
 have hl:=r.length
 have hn:=aB3
 have I':Inv X pins σ (upd H p (.lst (xs.set j v))) { s with heap:=s.heap.update p (Obj.mapSeq (·.setIfInBounds j u)) } :=
  I.lstUpd hp ho (bi1 its n j u) (r.set rv j) (by rw [length_set];exact hz) s.toks
 by_cases h0:0≤k
 ·have hk:k.toNat=j:=by
   rw [seqIndex_of h0 h4] at h1
   exact Option.some.inj h1
  exact PySem.W.ki_setAt ho h0 (by omega) (by rw [size_toArray,← hl];exact h4) (by rw [hk];exact⟨_,I',q⟩)
 ·have hk:(k+(its.toArray.size:Int)).toNat=j:=by
   rw [seqIndex_neg (by omega) h3] at h1
   rw [size_toArray,← hl]
   exact Option.some.inj h1
  exact PySem.W.ki_setBack ho (by omega) (by rw [size_toArray,← hl];exact h3) (by omega) (by rw [hk];exact⟨_,I',q⟩)
theorem aU7 (lo hi:Option Int)(n:Nat):(sliceBounds lo hi none n).1=((HT.sIx n 0 lo:Nat):Int)∧(sliceBounds lo hi none n).2.1=((HT.sIx n n hi:Nat):Int)∧(sliceBounds lo hi none n).2.2=1:=by
 refine⟨?_,?_,rfl⟩
 ·cases lo with
  | none=>simp [sliceBounds,HT.sIx]
  | some i =>
   simp only [sliceBounds,HT.sIx,Option.getD_none,show (1:Int) > 0 by decide,if_true]
   by_cases h:i < 0
   ·simp only [h,if_true] <;> omega
   ·simp only [h,if_false] <;> omega
 ·cases hi with
  | none=>simp [sliceBounds,HT.sIx]
  | some i =>
   simp only [sliceBounds,HT.sIx,Option.getD_none,show (1:Int) > 0 by decide,if_true]
   by_cases h:i < 0
   ·simp only [h,if_true] <;> omega
   ·simp only [h,if_false] <;> omega
theorem aT2 (its:List Value)(lo hi:Option Int):slicePick its.toArray lo hi none=((its.drop (HT.sIx its.length 0 lo)).take (HT.sIx its.length its.length hi - HT.sIx its.length 0 lo)).toArray:=by
 obtain⟨h1,h2,h3⟩:=aU7 lo hi its.toArray.size
 unfold slicePick
 rw [h1,h2,h3]
 simp only [sliceRange_one,pick_run,size_toArray] <;> rfl
def rSlL (K:PySem.W.Frag):V→Option Int→Option Int→Hp→VK→Prop:=fun x lo hi H Q=>∃ a xs,x=.ref a∧SqL K H a xs∧∀ p,H p=none→Q (.ref p) (upd H p (.lst (cutV xs lo hi)))
theorem bG4:SlR X (rSlL X.K):=by
 intro pins s σ H x v vl vu lo hi sl Q I rx hs pl pu h
 obtain⟨a,xs,rfl,hx,q⟩:=h
 cases rx
 obtain⟨its,r,ht,hz⟩:=I.list hx
 have hlen:=r.length
 refine⟨"list",_,slot_list_getitem.lookup,ht.isList.typeIs,?_⟩
 refine wpAny_getItem_list_slice ht.isList hs pl pu .none (by simp) ?_ (by rw [size_toArray] <;> omega)
 rw [aT2,← hlen]
 refine⟨.ref s.heap.objs.size,_,I.laid (t':=s.toks) (o:=.lst (cutV xs lo hi)) (fun b ob q=>Heap.get?_push_of_some _ q) (le_refl _) ?_,rfl,q _ (I.hok.fresh (le_refl _))⟩
 exact⟨le_trans (ba7 xs lo hi) hz,_,0,(r.drop (HT.sIx xs.length 0 lo)).take (HT.sIx xs.length xs.length hi - HT.sIx xs.length 0 lo),Heap.get?_push_size _ rfl⟩
def aq0:V→Bool
 | .non=>true
 | .bl _=>true
 | .int _=>true
 | .str _=>true
 | _=>false
def eqV:V→V→Bool
 | .non,.non=>true
 | .bl a,.bl b=>a == b
 | .bl a,.int b=>(if a then 1 else 0) == b
 | .int a,.bl b=>a == (if b then 1 else 0)
 | .int a,.int b=>a == b
 | .str a,.str b=>a == b
 | _,_=>false
theorem bP9 {A:Around}{s:Shared}{y x:V}{u v:Value}(ry:RelV y u)(rx:RelV x v)(fy:aq0 y=true)(fx:aq0 x=true):SeqAt.EqAt A s u v (eqV y x):=by
 cases y with
 | non =>
  cases ry
  cases x with
  | non=>cases rx;exact SeqAt.EqAt.same _
  | bl b=>cases rx;exact SeqAt.EqAt.none_bool b
  | int b=>obtain⟨t,rfl⟩:=rx;exact SeqAt.EqAt.none_int b t
  | str b=>obtain⟨t,rfl⟩:=rx;exact SeqAt.EqAt.none_str b t
  | _=>exact absurd (show false=true from fx) Bool.false_ne_true
 | bl a =>
  cases ry
  cases x with
  | non=>cases rx;exact SeqAt.EqAt.bool_none a
  | bl b=>cases rx;exact SeqAt.EqAt.bool_bool a b
  | int b=>obtain⟨t,rfl⟩:=rx;exact SeqAt.EqAt.bool_int a b t
  | str b=>obtain⟨t,rfl⟩:=rx;exact SeqAt.EqAt.bool_str a b t
  | _=>exact absurd (show false=true from fx) Bool.false_ne_true
 | int a =>
  obtain⟨t',rfl⟩:=ry
  cases x with
  | non=>cases rx;exact SeqAt.EqAt.int_none a t'
  | bl b=>cases rx;exact SeqAt.EqAt.int_bool a t' b
  | int b=>obtain⟨t,rfl⟩:=rx;exact SeqAt.EqAt.int_int a t' b t
  | str b=>obtain⟨t,rfl⟩:=rx;exact SeqAt.EqAt.int_str a t' b t
  | _=>exact absurd (show false=true from fx) Bool.false_ne_true
 | str a =>
  obtain⟨t',rfl⟩:=ry
  cases x with
  | non=>cases rx;exact SeqAt.EqAt.str_none a t'
  | bl b=>cases rx;exact SeqAt.EqAt.str_bool a t' b
  | int b=>obtain⟨t,rfl⟩:=rx;exact SeqAt.EqAt.str_int a t' b t
  | str b=>obtain⟨t,rfl⟩:=rx;exact SeqAt.EqAt.str_str a t' b t
  | _=>exact absurd (show false=true from fx) Bool.false_ne_true
 | _=>exact absurd (show false=true from fy) Bool.false_ne_true
def eqU (x:V)(u:Value):Bool:=match u with
 | .none=>eqV .non x
 | .bool b=>eqV (.bl b) x
 | .int i _=>eqV (.int i) x
 | .str z _=>eqV (.str z) x
 | _=>false
theorem bm6 {x y:V}{u:Value}(r:RelV y u)(f:aq0 y=true):eqU x u=eqV y x:=by
 cases y with
 | non=>cases r;rfl
 | bl b=>cases r;rfl
 | int i=>obtain⟨t,rfl⟩:=r;rfl
 | str z=>obtain⟨t,rfl⟩:=r;rfl
 | _=>exact absurd (show false=true from f) Bool.false_ne_true
theorem aw0 {x:V}:∀ {xs:List V} {us:List Value},Vals xs us→xs.all aq0=true→us.any (eqU x)=xs.any fun y=>eqV y x
 | _,_,.nil,_=>rfl
 | y::xs,u::us,.cons r t,f=>by
  rw [all_cons,Bool.and_eq_true] at f
  rw [any_cons,any_cons,bm6 r f.1,aw0 t f.2]
theorem as9 {A:Around}{s:Shared}{x:V}{v:Value}(rx:RelV x v)(fx:aq0 x=true):∀ {xs:List V} {us:List Value},Vals xs us→xs.all aq0=true→∀ u∈us,SeqAt.EqAt A s u v (eqU x u)
 | _,_,.nil,_=>fun u hu=>by cases hu
 | y::xs,u::us,.cons r t,f=>fun u' hu=>by
  rw [all_cons,Bool.and_eq_true] at f
  rcases mem_cons.mp hu with rfl | hu
  ·rw [bm6 r f.1];exact bP9 r rx f.1 fx
  ·exact as9 rx fx t f.2 u' hu
def inV (x:V)(xs:List V):Bool:=xs.any fun y=>eqV y x
def rIn (K:PySem.W.Frag)(neg:Bool):R2:=fun x y H Q=>∃ p xs,y=.ref p∧(SqL K H p xs∨SqT K H p xs)∧aq0 x=true∧xs.all aq0=true∧Q (.bl (if neg then !inV x xs else inV x xs)) H
theorem aB6:OpR X (compareOp .In) (rIn X.K false):=by
 intro pins s σ H x y v u Q I rx ry h
 obtain⟨p,xs,rfl,hq,fx,fs,q⟩:=h
 cases ry
 rcases hq with hq | hq
 ·obtain⟨its,r,pl,hz⟩:=I.list hq
  refine SeqAt.in_listAt (eqU x) pl.isList (fun w hw=>as9 rx fx r fs w (by simpa using hw)) ⟨.bl _,H,I,rfl,?_⟩
  rw [show its.toArray.any (eqU x)=its.any (eqU x) by simp,aw0 r fs]
  exact q
 ·obtain⟨its,r,pl,hz⟩:=I.tuple hq
  refine SeqAt.in_tupleAt (eqU x) pl (fun w hw=>as9 rx fx r fs w (by simpa using hw)) ⟨.bl _,H,I,rfl,?_⟩
  rw [show its.toArray.any (eqU x)=its.any (eqU x) by simp,aw0 r fs]
  exact q
theorem aB7:OpR X (compareOp .NotIn) (rIn X.K true):=by
 intro pins s σ H x y v u Q I rx ry h
 obtain⟨p,xs,rfl,hq,fx,fs,q⟩:=h
 cases ry
 rcases hq with hq | hq
 ·obtain⟨its,r,pl,hz⟩:=I.list hq
  refine SeqAt.notIn_listAt (eqU x) pl.isList (fun w hw=>as9 rx fx r fs w (by simpa using hw)) ⟨.bl _,H,I,rfl,?_⟩
  rw [show its.toArray.any (eqU x)=its.any (eqU x) by simp,aw0 r fs]
  exact q
 ·obtain⟨its,r,pl,hz⟩:=I.tuple hq
  refine SeqAt.notIn_tupleAt (eqU x) pl (fun w hw=>as9 rx fx r fs w (by simpa using hw)) ⟨.bl _,H,I,rfl,?_⟩
  rw [show its.toArray.any (eqU x)=its.any (eqU x) by simp,aw0 r fs]
  exact q
theorem ai8:ai5 X (.builtin "len") (fun xs H Q=>∃ p ys,xs=[.ref p]∧(SqL X.K H p ys∨SqT X.K H p ys)∧Q (.int ys.length) H):=by
 intro pins s σ H xs us Q I r h
 obtain⟨p,ys,rfl,hq,q⟩:=h
 obtain⟨u,rfl,rx⟩:=vals1 r
 cases rx
 have hn:=aB3
 rcases hq with hq | hq
 ·obtain⟨its,r',pl,hz⟩:=I.list hq
  have hlen:=r'.length
  exact Calls.call_len_list pl.isList (by simp only [size_toArray] <;> omega) ⟨.int ys.length,H,I.tok _,⟨s.toks+1,by rw [size_toArray,hlen]⟩,q⟩
 ·obtain⟨its,r',pl,hz⟩:=I.tuple hq
  have hlen:=r'.length
  exact len_tuple pl (by simp only [size_toArray] <;> omega) ⟨.int ys.length,H,I.tok _,⟨s.toks+1,by rw [size_toArray,hlen]⟩,q⟩
theorem at1:ai5 X (.type "list") (fun xs H Q=>∃ p ys,xs=[.ref p]∧(SqL X.K H p ys∨SqT X.K H p ys)∧∀ l,H l=none→Q (.ref l) (upd H l (.lst ys))):=by
 intro pins s σ H xs us Q I r h
 obtain⟨p,ys,rfl,hq,q⟩:=h
 obtain⟨u,rfl,rx⟩:=vals1 r
 cases rx
 have fin:∀ (its:List Value),Vals ys its→ys.length≤sizeLine→∀ (h':Heap) (c':Nat),(∀ b o',s.heap.get? b=some o'→h'.get? b=some o') →
   h'.get? s.heap.objs.size=some { cls:=.type "list",dict:=none,data:=.seq its.toArray c',slots:=#[] }→EP X pins σ Q (.ref s.heap.objs.size) { s with heap:=h' }:=fun its r' hz h' c' kp e =>
  ⟨.ref s.heap.objs.size,_,I.laid (t':=s.toks) kp (le_refl _) (show ObjOk X.prog X.w _ h' _ (.lst ys) from ⟨hz,its,c',r',e⟩),rfl,q _ (I.hok.fresh (le_refl _))⟩
 rcases hq with hq | hq
 ·obtain⟨its,r',pl,hz⟩:=I.list hq
  have hlen:=r'.length
  obtain⟨o,ho,hc,n,hd⟩:=pl.isList
  exact call_list_seq p (.inl rfl) ho hc hd (fun h' c' kp e=>fin its r' hz h' c' kp e) (by simp only [size_toArray] <;> omega)
 ·obtain⟨its,r',pl,hz⟩:=I.tuple hq
  have hlen:=r'.length
  obtain⟨o,ho,hc,n,hd⟩:=pl
  exact call_list_seq p (.inr rfl) ho hc hd (fun h' c' kp e=>fin its r' hz h' c' kp e) (by simp only [size_toArray] <;> omega)
def tyV (K:PySem.W.Frag)(T:String)(x:V)(H:Hp):Prop:=match x with
 | .str _=>T="str"
 | .int _=>T="int"
 | .ref p=>(T="list"∧∃ xs,SqL K H p xs)∨(T="tuple"∧∃ o,K.lookup p=some o∧o.cls=.type "tuple"∧o.dict=none) ∨
   (T="dict"∧((∃ kvs,H p=some (.dK kvs))∨∃ kvs,H p=some (.dT kvs)))∨(T="set"∧∃ S n,H p=some (.set S n))
 | _=>False
theorem bQ0 {pins:List (Addr×Obj)}{σ:St}{H:Hp}{s:Shared}{T:String}{x:V}{v:Value}(I:Inv X pins σ H s)(r:RelV x v)(ty:tyV X.K T x H) :
  s.TypeIs v T∧∀ a,v=.ref a→∃ ob,s.heap.get? a=some ob∧ob.dict=none:=by
 cases x with
 | str z =>
  obtain⟨t,rfl⟩:=r
  cases (show T="str" from ty)
  exact⟨typeIs_str s z t,fun _ e=>nomatch e⟩
 | int i =>
  obtain⟨t,rfl⟩:=r
  cases (show T="int" from ty)
  exact⟨typeIs_int s i t,fun _ e=>nomatch e⟩
 | ref p =>
  cases r
  rcases ty with ⟨rfl,xs,hq⟩ | ⟨rfl,o,hk,hc,hd⟩ | ⟨rfl,hk⟩ | ⟨rfl,S,n,hk⟩
  ·obtain⟨its,_,pl,_⟩:=I.list hq
   refine⟨pl.isList.typeIs,fun a e=>?_⟩
   cases e
   obtain⟨o,n,e,c,hd,_⟩:=pl
   exact⟨o,e,hd⟩
  ·refine⟨⟨o,I.kIn p o hk,hc⟩,fun a e=>?_⟩
   cases e
   exact⟨o,I.kIn _ o hk,hd⟩
  ·have z:∃ o,s.heap.get? p=some o∧o.ExactDict:=by
    rcases hk with ⟨kvs,hk⟩ | ⟨kvs,hk⟩
    ·obtain⟨_,_,_,_,o,_,_,e,ex,_⟩:=I.hok p _ hk
     exact⟨o,e,ex⟩
    ·obtain⟨_,_,_,_,o,_,_,e,ex,_⟩:=I.hok p _ hk
     exact⟨o,e,ex⟩
   obtain⟨o,e,ex⟩:=z
   refine⟨⟨o,e,ex.1⟩,fun a e2=>?_⟩
   cases e2
   exact⟨o,e,ex.2.1⟩
  ·obtain⟨o,_,_,_,e,ex,_⟩:=I.hok p _ hk
   refine⟨⟨o,e,ex.1⟩,fun a e2=>?_⟩
   cases e2
   exact⟨o,e,ex.2.1⟩
 | _=>exact False.elim ty
def tBM (K:PySem.W.Frag)(T:String)(r:V→List V→Hp→VK→Prop)(to:TE)(t:TA):TE:=fun σ H Q=>to σ H fun x H1=>tyV K T x H1∧t σ H1 fun xs H2=>r x xs H2 Q
variable {o e:Expr}{es:List Expr}{to:TE}{t:TA}{name:Str}{apos cpos:Pos}{T id:String}{r:V→List V→Hp→VK→Prop}
theorem bY3 (pa:PlainAttrs T)(slot:Slot T name id)(hty:typeOf (.builtin id)=pure (.type "method_descriptor"))(hm:MtR X id r)(ho:PE X o to)(ha:PA X (e::es) t)
  (hbase:attributeBase o name X.env (eval o X.env)=eval o X.env:=by rfl)
  (hfew:((backTo cpos (starEach (e::es) X.env)).all (fun x=>!x.1) && (backToKw cpos (keywordEach [] X.env)).all (fun x=>x.1.isSome)
   && decide ((e::es).length+([]:List Keyword).length+(if ([]:List Keyword).isEmpty then 0 else 1) < 30))=true:=by rfl)
  (hline:(apos.endLine == cpos.line)=true:=by rfl) (hs:starEach (e::es) X.env=(false,eval e X.env)::starEach es X.env:=by rfl) (hplain:(backTo cpos (starEach es X.env)).any (·.1)=false:=by rfl) :
  PE X (.Call (.Attribute o name apos) (e::es) [] cpos) (tBM X.K T r to t):=by
 intro pins s σ H Q I h
 refine wpAny_Call_method_late hbase hfew hline rfl (thn (ho pins s σ H _ I h) fun v s1 ⟨x,H1,I1,r1,ty,q1⟩=>?_)
 obtain⟨h1,h2⟩:=bQ0 I1 r1 ty
 refine⟨T,id,pa,slot,hty,h1,h2,?_⟩
 have hA:=ha cpos pins s1 σ H1 _ I1 q1
 rw [hs] at hA ⊢
 refine Calls.callWith_builtin (by show (false || (backTo cpos (starEach es X.env)).any (·.1))=false;rw [hplain] <;> rfl) (Calls.evalArgs_plain ?_)
 exact thn hA fun us s2 ⟨vs,H2,I2,r2,q2⟩=>hm pins s2 σ H2 x vs v us Q I2 r1 r2 q2
end
def MtM (X:Cx)(id:String)(r:V→List V→Hp→VK→Prop):Prop :=
 ∀ (pins:List (Addr×Obj)) (s:Shared) (σ:St) (H:Hp) (x:V) (xs:List V) (v:Value) (us:List Value) (Q:VK),Inv X pins σ H s→RelV x v→Vals xs us→r x xs H Q →
  wpAny (model X.prog X.w) X.A (call (.builtin id) (v::us)) (EP X pins σ Q) X.xe s
theorem Vals.one:∀ {x:V} {us:List Value},Vals [x] us→∃ u,us=[u]∧RelV x u
 | _,_,.cons r .nil=>⟨_,rfl,r⟩
theorem Vals.reverse {xs:List V}{us:List Value}(h:Vals xs us):Vals xs.reverse us.reverse:=by
 induction h with
 | nil=>exact .nil
 | cons r t ih=>rw [reverse_cons,reverse_cons];exact Vals.append ih (.cons r .nil)
theorem Vals.rep {xs:List V}{us:List Value}(h:Vals xs us):∀ k:Nat,Vals (replicate k xs).flatten (replicate k us).flatten
 | 0=>.nil
 | k+1=>by
  rw [replicate_succ,replicate_succ,flatten_cons,flatten_cons]
  exact Vals.append h (Vals.rep h k)
theorem foldl_rep (its:List Value):∀ (k:Nat) (acc:List Value),
  foldl (fun x1 x2=>x1++x2) acc.toArray (replicate k its.toArray)=(acc++(replicate k its).flatten).toArray
 | 0,acc=>by simp
 | k+1,acc=>by
  have e:acc.toArray++its.toArray=(acc++its).toArray:=by simp
  have e2:(acc++its)++(replicate k its).flatten=acc++(replicate (k+1) its).flatten:=by
   rw [replicate_succ,flatten_cons,append_assoc]
  rw [← e2,← foldl_rep its k (acc++its),← e,replicate_succ,foldl_cons]
section
variable {X:Cx}{pins:List (Addr×Obj)}{σ:St}{H:Hp}{s:Shared}{l b:Addr}{xs ys zs:List V}
theorem Inv.lset {its its':List Value}{n:Nat}{f:Array Value→Array Value}{t':Nat}(I:Inv X pins σ H s)(hH:H l=some (.lst xs))
  (e:s.heap.get? l=some { cls:=.type "list",data:=.seq its.toArray n }) (hf:f its.toArray=its'.toArray) (hv:Vals ys its') (hz:ys.length≤sizeLine) :
  Inv X pins σ (upd H l (.lst ys)) { s with heap:=s.heap.update l (Obj.mapSeq f),toks:=t' }:=by
 have q:=PySem.IsL.update e f
 rw [hf] at q
 refine I.write (x:=l) (e:=l) (by rw [hH];exact trivial) (.inl rfl) (fun b' u hb hu=>(Heap.get?_update_other s.heap (Obj.mapSeq f) (Ne.symm hb)).trans hu) ⟨_,q⟩ ?_
 exact⟨hz,its',_,hv,q⟩
theorem Inv.lnew {its:List Value}{t':Nat}(I:Inv X pins σ H s)(hv:Vals ys its)(hz:ys.length≤sizeLine) :
  Inv X pins σ (upd H s.heap.objs.size (.lst ys)) { s with heap:=s.heap.push { cls:=.type "list",data:=.seq its.toArray },toks:=t' } :=
 I.laid (fun _ _ q=>Heap.get?_push_of_some _ q) (le_refl _) ⟨hz,its,0,hv,Heap.get?_push_size _ rfl⟩
theorem Inv.fresh (I:Inv X pins σ H s):H s.heap.objs.size=none:=I.hok.fresh (le_refl _)
theorem Inv.lstM (I:Inv X pins σ H s)(hH:H l=some (.lst xs)):xs.length≤sizeLine∧∃ (its:List Value) (n:Nat),Vals xs its∧xs.length=its.length∧s.heap.get? l=some { cls:=.type "list",data:=.seq its.toArray n }:=by
 obtain⟨z,its,n,r,e⟩:=I.hok l _ hH
 exact⟨z,its,n,r,r.length,e⟩
theorem aU8 {n:Nat}(h:n≤sizeLine):Builtin.List.listTooLong n=false:=by
 unfold Builtin.List.listTooLong
 exact decide_eq_false (by omega)
end
section
variable {X:Cx}
def bG5:V→List V→Hp→VK→Prop:=fun x vs H Q=>∃ l xs y,x=.ref l∧vs=[y]∧H l=some (.lst xs)∧xs.length < sizeLine∧Q .non (upd H l (.lst (xs++[y])))
theorem aB8:MtM X "list.append" bG5:=by
 intro pins s σ H x vs v us Q I rx rv h
 obtain⟨l,xs,y,rfl,rfl,hH,hz,q⟩:=h
 cases rx
 obtain⟨u,rfl,ru⟩:=rv.one
 obtain⟨z,its,n,r,hl,e⟩:=I.lstM hH
 refine call_meets F.slot_list_append ⟨_,e,rfl⟩ F.entry_list_append (F.args_list_append_2 _ _) (PySem.list_append l its.toArray n u (by rw [size_toArray];omega)) ⟨e,?_⟩
 refine⟨.non,_,I.lset (its':=its++[u]) hH e (by simp) (r.append (.cons ru .nil)) ?_,rfl,q⟩
 rw [length_append,List.length_singleton]
 omega
def bG6:V→List V→Hp→VK→Prop:=fun x vs H Q=>∃ l b xs zs,x=.ref l∧vs=[.ref b]∧H l=some (.lst xs)∧H b=some (.lst zs)∧xs.length+zs.length≤sizeLine∧Q .non (upd H l (.lst (xs++zs)))
theorem cc1:MtM X "list.extend" bG6:=by
 intro pins s σ H x vs v us Q I rx rv h
 obtain⟨l,b,xs,zs,rfl,rfl,hH,hB,hz,q⟩:=h
 cases rx
 obtain⟨u,rfl,ru⟩:=rv.one
 cases ru
 obtain⟨z,its,n,r,hl,e⟩:=I.lstM hH
 obtain⟨z2,its2,n2,r2,hl2,e2⟩:=I.lstM hB
 have hsz:its.toArray.size+its2.toArray.size≤sizeLine:=by rw [size_toArray,size_toArray];omega
 have hlong:¬ (!its.toArray.isEmpty && Builtin.List.listTooLong (its.toArray.size+its2.toArray.size))=true:=by
  rw [aU8 hsz,Bool.and_false]
  exact Bool.false_ne_true
 refine call_meets F.slot_list_extend ⟨_,e,rfl⟩ F.entry_list_extend (F.args_list_extend_2 _ _)
  (AutoSeq1.list_extend_list_list_0 l its.toArray n b its2.toArray n2 hlong (by rw [size_toArray];omega) (by omega)) ⟨e,e2,?_⟩
 refine⟨.non,_,I.lset (its':=its++its2) hH e (by simp) (r.append r2) ?_,rfl,q⟩
 rw [length_append]
 omega
def rCat:R2:=fun x y H Q=>∃ l b xs zs,x=.ref l∧y=.ref b∧H l=some (.lst xs)∧H b=some (.lst zs)∧xs.length+zs.length≤sizeLine∧∀ p,H p=none→Q (.ref p) (upd H p (.lst (xs++zs)))
theorem aU9:OpR X (binaryOp .Add) rCat:=by
 intro pins s σ H x y v u Q I rx ry h
 obtain⟨l,b,xs,zs,rfl,rfl,hH,hB,hz,q⟩:=h
 cases rx
 cases ry
 obtain⟨z,its,n,r,hl,e⟩:=I.lstM hH
 obtain⟨z2,its2,n2,r2,hl2,e2⟩:=I.lstM hB
 refine PySem.P.add_list e e2 ?_ (by rw [size_toArray,size_toArray];omega)
 have ea:its.toArray++its2.toArray=(its++its2).toArray:=by simp
 rw [ea]
 exact⟨.ref _,_,I.lnew (t':=s.toks) (r.append r2) (by rw [length_append];omega),rfl,q _ I.fresh⟩
def rRep:R2:=fun x y H Q=>∃ l k xs,x=.ref l∧y=.int k∧H l=some (.lst xs)∧-(2 ^ 63)≤k∧k < 2 ^ 63∧xs.length*k.toNat≤sizeLine ∧
 ∀ p,H p=none→Q (.ref p) (upd H p (.lst (replicate k.toNat xs).flatten))
theorem len_rep {α:Type}(xs:List α)(k:Nat):(replicate k xs).flatten.length=k*xs.length:=by
 induction k with
 | zero=>simp
 | succ k ih=>rw [replicate_succ,flatten_cons,length_append,ih,Nat.succ_mul,Nat.add_comm]
theorem at3:OpR X (binaryOp .Mult) rRep:=by
 intro pins s σ H x y v u Q I rx ry h
 obtain⟨l,k,xs,rfl,rfl,hH,h1,h2,hz,q⟩:=h
 cases rx
 obtain⟨t,rfl⟩:=ry
 obtain⟨z,its,n,r,hl,e⟩:=I.lstM hH
 have hlen:its.toArray.size*k.toNat≤sizeLine:=by rw [size_toArray,← hl];exact hz
 have hcap:¬ its.toArray.size*k.toNat > (2 ^ 63 - 1) / 8:=by
  have:(sizeLine:Nat)≤(2 ^ 63 - 1) / 8:=by decide
  omega
 have hfit:¬ (!Builtin.List.listFitsIndex k)=true:=by
  rw [fitsIndex_both h1 h2]
  exact Bool.false_ne_true
 have hlong:¬ Builtin.List.listTooLong (its.toArray.size*k.toNat)=true:=by
  rw [aU8 hlen]
  exact Bool.false_ne_true
 have hnew:foldl (fun x1 x2=>x1++x2) #[] (replicate (if its.toArray.isEmpty=true then 0 else k.toNat) its.toArray)=(replicate k.toNat its).flatten.toArray:=by
  have f0:∀ m:Nat,foldl (fun x1 x2=>x1++x2) #[] (replicate m its.toArray)=(replicate m its).flatten.toArray:=fun m=>by
   have:=foldl_rep its m []
   rw [List.nil_append] at this
   exact this
  rw [f0]
  cases its with
  | nil=>simp
  | cons a r'=>rw [if_neg (by simp)]
 refine wpAny_binaryOp_repeat_ref (T:="list") (U:="int") (by decide) ⟨_,e,rfl⟩ (fun s'=>typeIs_int s' k t) noFill_list_mul F.fills_int_mul F.slot_int_rmul repeat_list F.slot_int_index.lookup
  (call_meets F.slot_int_rmul (typeIs_int s k t) F.entry_int_rmul (F.args_int_rmul_2 _ _) (int___rmul___int_list k t l its.toArray n)
   ⟨e,rfl,⟨_,e,rfl⟩,call_meets F.slot_list_mul ⟨_,e,rfl⟩ F.entry_list_mul (F.args_list_mul_2 _ _) (AutoListH.list___mul___list_int_3 l its.toArray n k t hfit hcap hlong) ⟨e,?_⟩⟩)
 rw [hnew]
 exact⟨.ref _,_,I.lnew (t':=s.toks) (r.rep k.toNat) (by rw [len_rep,mul_comm];exact hz),rfl,q _ I.fresh⟩
end
end L2
namespace Att
open PySem PySem.W PySem.Calls PyProof.Rows
theorem aK2 {P:Params}{h:Heap}:∀ (ns:List Int) (vs:List Value),WellAll P h vs (ns.map WData.int)→IntsAre vs ns:=by
 intro ns
 induction ns with
 | nil =>
  intro vs w
  rw [map_nil] at w
  cases w
  exact .nil
 | cons n ns ih =>
  intro vs w
  rw [map_cons] at w
  cases w with
  | cons a b =>
   cases a
   exact .cons _ _ (ih _ b)
theorem bm7 {l:OpenLaw}{n:Nat}(hn:l.most=some n){P:Params}{h:Heap}{args:List WData}{vals:List Value}
  (hpre:l.row.toRowW.claim.pre args=true) (hwl:WellAll P h vals args) :
  ∃ a vs ns,vals=[Value.ref a]∧args=[WData.list (ns.map WData.int)]∧h.get? a=some { cls:=.type "list",data:=.seq vs.toArray }∧IntsAre vs ns∧ns.length≤n:=by
 have hsh:WShape.hasAll [] args [.list .int]=true:=(pre_splitW hpre).1
 have hc:l.pre.holds [] { args:=args }=true:=(pre_splitW hpre).2
 obtain⟨d,r,rfl,h1,h2⟩:=hasAllW_cons hsh
 obtain rfl:=hasAllW_nil h2
 obtain⟨xs,rfl,h3⟩:=hasW_list h1
 obtain⟨ns,rfl⟩:=items_int h3
 have hlen:ns.length≤n:=by
  unfold OpenLaw.pre at hc
  have h4:(WTm.not (.lt (.lit (.int (n:Int))) (.len (.arg 0)))).holds [] { args:=[.list (ns.map .int)] }=true:=by
   have h4:=(holds_andW hc).1
   rw [hn] at h4
   exact h4
  have h5:=condW_of h4 (w_not (w_lt w_lit (w_len_list (w_arg rfl))))
  rw [length_map] at h5
  refine Nat.le_of_not_lt fun q=>?_
  have q':(n:Int) < ((ns.length:Nat):Int):=by omega
  first
   | (rw [decide_eq_true q'] at h5;exact absurd h5 (by decide))
   | (simp at h5;omega)
 cases hwl with
 | cons w1 w2 =>
  cases w2
  cases w1 with
  | list ho hall=>exact⟨_,_,ns,rfl,rfl,ho,aK2 ns _ hall,hlen⟩
theorem bm8 (l:OpenLaw)(args:List WData):l.row.toRowW.claim.post args (.bool true) args=true :=
 postW_of (r:=l.row.toRowW) (X:=(true == true))
  (show WShape.has [] (.bool true) .bool=true by first | rfl | decide | simp [WShape.has,WShape.arms,WShape.armsAll])
  (show (WTm.eq .res (.lit (.bool true))).value [] { args:=args,res:=some (.bool true),after:=args }=some (.bool (true == true)) from w_eq_bool (w_res rfl) w_lit) rfl
theorem attach_call {l:OpenLaw}{n:Nat}{q:Program}{loose:List Str}{XP:(Str→Option Value)→Heap→Prop}{YP:World→Heap→Prop}{d:DefRec}
  (hn:l.most=some n) (hdf:d.params.defaults=[])
  (call:∀ (w:World) (s₀ s₁:Shared) (mg mb:Str→Option Value) (fa:Addr) (o:Obj) (pm cd doc:Value) (a:Addr) (vs:List Value) (ns:List Int),
   Ground q loose [] XP w s₀ mg mb s₁.heap→YP w s₁.heap →
   s₁.heap.get? fa=some o→o.data=.func (docDef d.name d.params d.body d.scope pm cd doc)→s₁.heap.CodeRec cd d.name→mg d.name=some (.ref fa) →
   s₁.heap.get? a=some { cls:=.type "list",data:=.seq vs.toArray }→IntsAre vs ns→ns.length≤n→s₁.gens=#[] →
   codeAny (model l.prog w) callerA (.call (.ref fa) ⟨[.ref a],[]⟩) (fun r s'=>r=.ok (.ret (.bool true))∧OldK s₁.heap s'.heap∧s'.os=s₁.os∧AllBare s'.gens) s₁) :
  WalkO q loose XP YP l.row.toRowW d [] (fun f vs=>PySem.call f vs):=by
 intro w s₀ s₁ mg mb G Y fa o pm cd doc dV kV ho hd hcd hD hmg hg args vals as hpre hlay hrd hwl hlo
 obtain rfl:dV=.none:=Dflts.none hD hdf
 obtain rfl:kV=.none:=Dflts.noKw hD
 obtain⟨a,vs,ns,rfl,rfl,hobj,hints,hlen⟩:=bm7 hn hpre hwl
 refine enter_call (codeAny_mono (call w s₀ s₁ mg mb fa o pm cd doc a vs ns G Y ho (fd_plain hd) hcd hmg hobj hints hlen hg) fun r s' hq=>?_)
 obtain⟨rfl,h2,h3,h4⟩:=hq
 exact⟨.inl ⟨.bool true,.bool true,[],rfl,fun _=>rfl,.bool true,bm8 l _,fun _=>⟨Pairwise.nil,fun _ hm=>(nomatch hm)⟩⟩,h2,h3,h4⟩
end Att
namespace L2
open PySem PySem.Spec PyProof.Rows
theorem ak9:∀ {vs:List Value} {ns:List Int},IntsAre vs ns→Vals (ns.map V.int) vs
 | _,_,.nil=>.nil
 | _,_,.cons n t h=>.cons ⟨t,rfl⟩ (ak9 h)
def Only (H:Hp):Prop:=∀ b,H b=none∨∃ o xs,H b=some (.frz o (.lst xs))
theorem bv1 {P:Program}{w:World}{K:PySem.W.Frag}{mg mb:Str→Option Value}{CX:CXT}{k:Nat}{fa a:Addr}{fd:FuncData}{x:Str}{sp:Sp}{s₁:Shared}{vs:List Value}{ns:List Int}
  (KX:K.In s₁.heap) (hns:s₁.heap.Ns mainGlobals mg) (hb:s₁.heap.Ns builtinsNs mb) (hbb:∀ x:Str,x≠"__name__"→mb x=bootBuiltins x) (hlim:s₁.heap.NoLimit) (hg:s₁.gens=#[])
  (ha:s₁.heap.get? a=some { cls:=.type "list",data:=.seq vs.toArray }) (hi:IntsAre vs ns) (hl:ns.length≤sizeLine) (hr:Room k callerA)
  (F:∀ base:Heap,K.In base→base.Ns mainGlobals mg→FnOk P w K mg base CX k fa fd [x] sp) (hbind:∀ (s:Shared) (u:Value),BindsTo s fd ⟨[u],[]⟩ [(x,u)])
  (hsp:∀ H:Hp,Only H→SqL K H a (ns.map V.int)→sp [.ref a] H (fun v _=>v=.bl true) fun _ _ _=>False)
  (hCX:∀ H e s',CX [] H s₁ (fun _ _ _=>False) e s'→False) :
  codeAny (model P w) callerA (.call (.ref fa) ⟨[.ref a],[]⟩) (fun r s'=>r=.ok (.ret (.bool true))∧OldK s₁.heap s'.heap∧s'.os=s₁.os∧AllBare s'.gens) s₁:=by
 have rv:=ak9 hi
 have lenV:=hi.length
 have core:∀ H:Hp,Only H→SqL K H a (ns.map V.int)→HOk P w H s₁.heap→(∀ b,H b≠none→b=a)→(H a≠none→K.lookup a=none) →
   codeAny (model P w) callerA (.call (.ref fa) ⟨[.ref a],[]⟩) (fun r s'=>r=.ok (.ret (.bool true))∧OldK s₁.heap s'.heap∧s'.os=s₁.os∧AllBare s'.gens) s₁:=by
  intro H hO hS hok hA hK
  have base_of:∀ {b:Addr} {o:Obj},s₁.heap.get? b=some o→H b=none→(hidT s₁.heap H).get? b=some o:=fun e n=>bt9 e n
  have noA:∀ {b:Addr} {o:Obj} {es:Array DictEntry} {ep:Nat},s₁.heap.get? b=some o→o.data=.dict es ep→H b=none:=fun {b o es ep} e d=>by
   cases q:H b with
   | none=>rfl
   | some u =>
    have e':b=a:=hA b (by rw [q];simp)
    subst e'
    rw [ha] at e;cases e
    have d':Data.seq vs.toArray _=Data.dict es ep:=d
    cases d'
  have nsK:∀ {b:Addr} {m:Str→Option Value},s₁.heap.Ns b m→(hidT s₁.heap H).Ns b m:=fun {b m} ⟨o,es,ep,e,d,r⟩=>⟨o,es,ep,base_of e (noA e d),d,r⟩
  have hKb:K.In (hidT s₁.heap H):=fun b o e=>base_of (KX b o e) (by
   cases q:H b with
   | none=>rfl
   | some u =>
    have e':b=a:=hA b (by rw [q];simp)
    subst e'
    rw [hK (by rw [q];simp)] at e;cases e)
  have hM:Mod K mg (hidT s₁.heap H):=⟨hKb,nsK hns,⟨mb,nsK hb,hbb⟩,let ⟨mc,h1,h2⟩:=hlim;⟨mc,nsK h1,h2⟩⟩
  have e0:Env0 P w K mg (hidT s₁.heap H) callerA [] s₁ H:=⟨rfl,hM,fun b o e=>bE7 e,le_of_eq (bl2 _ _),trivial,fun b hb=>absurd (show b∈([]:List Addr) from hb) (by simp),hok,.of_eq hg⟩
  refine codeAny_mono ((F _ hKb (nsK hns)).run callerA [] s₁ H ⟨[.ref a],[]⟩ [.ref a] [.ref a] _ _ hr e0 (hbind s₁ (.ref a)) (.cons rfl .nil) (hsp H hO hS)) fun r s' h=>?_
  cases r with
  | error e=>exact (hCX H e s' h).elim
  | ok fl =>
   cases fl with
   | next=>exact False.elim h
   | brk=>exact False.elim h
   | cont=>exact False.elim h
   | ret u =>
    obtain⟨v,H',os,bare,un,hok',r',q⟩:=h
    have q':v=.bl true:=q
    subst q'
    obtain rfl:u=Value.bool true:=r'
    refine⟨rfl,OldK.of_keep fun b o e=>?_,os,bare⟩
    cases q:H b with
    | none=>exact un.keep b o e q (by intro z;exact absurd (show b∈([]:List Addr) from z) (by simp)) (by simp)
    | some u =>
     rcases hO b with z | ⟨ob,xs,z⟩
     ·rw [q] at z;cases z
     ·have z2:=un.frzs b ob _ z
      obtain⟨e1,_⟩:=hok b _ z
      obtain⟨e2,_⟩:=hok' b _ z2
      rw [e] at e1;cases e1
      exact e2
 cases hk:K.lookup a with
 | some o =>
  have e:=KX a o hk
  rw [ha] at e
  cases e
  refine core (fun _=>none) (fun _=>.inl rfl) (.inr ⟨_,vs.toArray,_,hk,rfl,rfl,rfl,by rw [size_toArray,lenV];exact hl,by simpa using rv⟩) (fun b u z=>by have z':(none:Option HO)=some u:=z;cases z') (fun b z=>absurd rfl z) fun z=>absurd rfl z
 | none =>
  refine core (fun b=>if b=a then some (.frz { cls:=.type "list",data:=.seq vs.toArray } (.lst (ns.map V.int))) else none) (fun b=>?_) (.inl (.inr ⟨{ cls:=.type "list",data:=.seq vs.toArray },if_pos rfl⟩)) (fun b u z=>?_) (fun b z=>?_) fun _=>hk
  ·by_cases hb:b=a
   ·exact .inr ⟨_,_,if_pos hb⟩
   ·exact .inl (if_neg hb)
  ·by_cases hb:b=a
   ·have z':=(if_pos hb).symm.trans z
    cases z'
    subst hb
    exact⟨ha,by rw [length_map];exact hl,vs,_,rv,ha⟩
   ·have z':=(if_neg hb).symm.trans z
    cases z'
  ·by_cases hb:b=a
   ·exact hb
   ·exact absurd (if_neg hb) z
abbrev KOf {K:PySem.W.Frag}{h:Heap}(_:K.In h):PySem.W.Frag:=K
theorem bG7 {l:PySem.W.OpenLaw}{n k:Nat}{q:Program}{loose:List Str}{XP:(Str→Option Value)→Heap→Prop}{YP:World→Heap→Prop}{d:DefRec}{K:Params→PySem.W.Frag}{CX:World→CXT}{sp:World→Sp}{x:Str}
  (hn:l.most=some n) (hn2:n≤sizeLine) (hdf:d.params.defaults=[]) (hr:Room k callerA)
  (hY:∀ (w:World) (h:Heap),YP w h→(K w.params).In h)
  (F:∀ (w:World) (mg:Str→Option Value) (fa:Addr) (h:Heap),(K w.params).In h→h.Ns mainGlobals mg→mg d.name=some (.ref fa) →
   ∃ fd:FuncData,(∀ (s:Shared) (u:Value),BindsTo s fd ⟨[u],[]⟩ [(x,u)]) ∧
    ∀ base:Heap,(K w.params).In base→base.Ns mainGlobals mg→FnOk l.prog w (K w.params) mg base (CX w) k fa fd [x] (sp w))
  (hsp:∀ (w:World) (H:Hp) (a:Addr) (ns:List Int),ns.length≤n→Only H→SqL (K w.params) H a (ns.map V.int)→sp w [.ref a] H (fun v _=>v=.bl true) fun _ _ _=>False)
  (hCX:∀ (w:World) (H:Hp) (s:Shared) (e:Value) (s':Shared),CX w [] H s (fun _ _ _=>False) e s'→False) :
  PySem.W.WalkO q loose XP YP l.row.toRowW d [] (fun f vs=>PySem.call f vs):=by
 refine Att.attach_call hn hdf fun w s₀ s₁ mg mb fa o pm cd doc a vs ns G Y ho hd hcd hmg hobj hints hlen hg=>?_
 have KX:=hY w _ Y
 obtain⟨fd,hb,hF⟩:=F w mg fa _ KX G.T.g hmg
 exact bv1 KX G.T.g G.T.b G.T.builtins G.T.nolimit hg hobj hints (le_trans hlen hn2) hr hF hb (fun H hO hS=>hsp w H a ns hlen hO hS) fun H e s'=>hCX w H s₁ e s'
def inClass (s:Stmt)(j:Nat):Stmt:=match s with
 | .ClassDef _ _ _ body _ _ _ _ _ _ _=>body.getD j (.Pass ⟨0,0,0,0⟩)
 | _=>.Pass ⟨0,0,0,0⟩
def ab4 (s:Stmt):Arguments:=match s with
 | .FunctionDef _ a _ _ _ _ _ _ _ _=>a
 | _=>{ posonlyargs:=[],args:=[],vararg:=none,kwonlyargs:=[],kw_defaults:=[],kwarg:=none,defaults:=[] }
def ab1 (s:Stmt):List Stmt:=match s with
 | .FunctionDef _ _ b _ _ _ _ _ _ _=>b
 | _=>[]
def aa2 (s:Stmt):Scope:=match s with
 | .FunctionDef _ _ _ _ _ _ sc _ _ _=>sc
 | _=>{ kind:=.function,names:=[],isGenerator:=false,isCoroutine:=false }
abbrev CX0:CXT:=fun _ _ _ _ _ _=>False
abbrev E0:XK:=fun _ _ _=>False
structure Fun (K:PySem.W.Frag) (x qual:Str) (st:Stmt) (f:Addr) (fd:FuncData):Prop where
 ex:∃ (oc:Value) (od:Option Addr) (kV doc pm:Value) (an:Option Addr) (cdv ct:Value) (osl:Array (Option Value)),
  fd=fnOf x qual (ab4 st) (ab1 st) (aa2 st) .none kV doc pm an cdv ct∧K.lookup f=some ⟨oc,od,.func fd,osl⟩∧codeIn K cdv qual=true
 kp:keepIn K (.ref f)=true
section
variable {P:Program}{w:World}{K:PySem.W.Frag}{mg:Str→Option Value}{base:Heap}
theorem Fun.binds {x qual:Str}{st:Stmt}{f:Addr}{fd:FuncData}{ps:List Str}(F:Fun K x qual st f fd)
  (h:∀ (kV doc pm:Value) (an:Option Addr) (cdv ct:Value) (us:List Value),us.length=ps.length→bindArgs (fnOf x qual (ab4 st) (ab1 st) (aa2 st) .none kV doc pm an cdv ct) ⟨us,[]⟩=pure (ps.zip us)):Binds K fd ps []:=by
 obtain⟨oc,od,kV,doc,pm,an,cdv,ct,osl,rfl,lk,hcd⟩:=F.ex
 exact .all (h kV doc pm an cdv ct)
theorem ab9 {x qual:Str}{st:Stmt}{f:Addr}{oc:Value}{od an:Option Addr}{osl:Array (Option Value)}{kV doc pm cdv ct:Value}(l:K.lookup f=some ⟨oc,od,.func (fnOf x qual (ab4 st) (ab1 st) (aa2 st) .none kV doc pm an cdv ct),osl⟩)
  (c:codeIn K cdv qual=true) (k:keepIn K (.ref f)=true):Fun K x qual st f (fnOf x qual (ab4 st) (ab1 st) (aa2 st) .none kV doc pm an cdv ct):=⟨⟨oc,od,kV,doc,pm,an,cdv,ct,osl,rfl,l,c⟩,k⟩
end
theorem bY4 {A:Around}{k:Nat}(hr:Room k A):A.units+1 < cLine:=lt_of_le_of_lt (Nat.add_le_add_left (by decide:1≤64) _) hr.units
def Same (H H':Hp):Prop:=∀ b o,H b=some o→H' b=some o
theorem Same.refl (H:Hp):Same H H:=fun _ _ h=>h
theorem Same.trans {H H1 H2:Hp}(a:Same H H1)(b:Same H1 H2):Same H H2:=fun c o h=>b c o (a c o h)
theorem Same.free {H H':Hp}(e:Same H H'){l:Addr}(h:H' l=Option.none):H l=Option.none:=by
 cases q:H l with
 | none=>rfl
 | some o =>
  rw [e l o q] at h
  cases h
theorem Same.seq {K:PySem.W.Frag}{H H':Hp}{a:Addr}{xs:List V}(e:Same H H')(h:SqL K H a xs):SqL K H' a xs:=by
 rcases h with (h | ⟨o,h⟩) | h
 ·exact .inl (.inl (e _ _ h))
 ·exact .inl (.inr ⟨o,e _ _ h⟩)
 ·exact .inr h
end L2
namespace Fr
open PySem PySem.Spec L2
open PyProof.Rows hiding St
structure Bi (mg:Str→Option Value):Prop where
 len:mg "len"=none
 abs:mg "abs"=none
 int:mg "int"=none
 max:mg "max"=none
 min:mg "min"=none
 range:mg "range"=none
 isinstance:mg "isinstance"=none
 bool:mg "bool"=none
 tuple:mg "tuple"=none
 list:mg "list"=none
 str:mg "str"=none
 zip:mg "zip"=none
 all:mg "all"=none
 divmod:mg "divmod"=none
section
variable {X:Cx}{a b:Expr}{ta tb:TE}{pos p:Pos}{k:Nat}{x:Str}{ps:List Str}{sp:Sp}{e:Expr}{es:List Expr}{t:TA}
theorem aN8 {n:Nat}(h:n < 2 ^ 250):n.log2 < 9000:=by
 by_cases h0:n=0
 ·subst h0;decide
 ·have:=(Nat.log2_lt h0).mpr h
  omega
theorem ag3:OpR X (binaryOp .FloorDiv) (rI (fun _ j=>0 < j∧j < 2 ^ 250) fun i j=>.int (i / j)):=opI fun i j _ _ _ _ _ hc q=>by
 have h1:(0:Int) < j:=hc.1
 have h2:j < 2 ^ 250:=hc.2
 exact floordiv_int (by omega) (by rw [Int.fdiv_eq_ediv_of_nonneg i (by omega)];exact q) (.inl (PyProof.noPylong_of_log2 (aN8 (by omega))))
theorem aV0:OpR X (binaryOp .FloorDiv) (rI (fun _ j=>j≠0∧j.natAbs < 2 ^ 250) fun i j=>.int (i.fdiv j)):=opI fun i j _ _ _ _ _ hc q =>
 floordiv_int hc.1 q (.inl (PyProof.noPylong_of_log2 (aN8 hc.2)))
theorem bY5 {x:Str}{n:String}{pos:Pos}(hg:Gl X x)(hm:X.mg x=none)(hv:bootBuiltins x=some (.type n))(hn:x≠"__name__":=by decide)(hd:(x == ("__debug__" : Str))=false:=by decide):PE X (.Name x pos) (tC (.ty n)) :=
 bE9 hg hm hv rfl hn hd
end
theorem Same.new {q:Addr}{H:Hp}{o:HO}(h:H q=none):Same H (L2.upd H q o):=fun c u e=>by rw [ab2 (ad8 e h)];exact e
theorem len2 {a b:V}:[a,b].length≤sizeLine:=by show 2≤sizeLine;decide
end Fr
namespace Fr
theorem bc9 {x y q r:Int}(h:x=y*q+r):gcd y r=gcd x y:=by
 have h2:r=x+(-q)*y:=by rw [h,Int.neg_mul,Int.mul_comm q y];omega
 rw [h2,Int.gcd_add_mul_right_right,Int.gcd_comm]
theorem aR1 (x y:Int):gcd y (x % y)=gcd x y:=bc9 (q:=x / y) (Int.mul_ediv_add_emod x y).symm
theorem bm9 (x y:Int):gcd y (x.fmod y)=gcd x y:=bc9 (q:=x.fdiv y) (Int.mul_fdiv_add_fmod x y).symm
theorem bG8 (x y:Int):gcd (if x < 0 then -x else x) (if y < 0 then -y else y)=gcd x y:=by
 have h:∀ z:Int,(if z < 0 then -z else z).natAbs=z.natAbs:=fun z=>by split <;> omega
 show Nat.gcd _ _=Nat.gcd _ _
 rw [h,h]
def IsSpot (x y:Int):Prop:=(x=1∧y=0)∨(0 < y∧gcd x y=1)
theorem IsSpot.nn {x y:Int}(h:IsSpot x y):0≤y:=by rcases h with h | h <;> omega
theorem IsSpot.gcd {x y:Int}(h:IsSpot x y):gcd x y=1:=by
 rcases h with ⟨rfl,rfl⟩ | h
 ·rfl
 ·exact h.2
end Fr
namespace Fr
open PySem PySem.Spec L2
open PyProof.Rows hiding St
mutual
inductive IsD (K:PySem.W.Frag) (H:Hp):V→PyData→Prop
 | non:IsD K H .non .none
 | bl (b:Bool):IsD K H (.bl b) (.bool b)
 | int (i:Int):IsD K H (.int i) (.int i)
 | str (x:Str):IsD K H (.str x) (.str x)
 | tup {a:Addr} {xs:List V} {ds:List PyData}:SqT K H a xs→IsDs K H xs ds→IsD K H (.ref a) (.tuple ds)
 | lst {a:Addr} {xs:List V} {ds:List PyData}:SqL K H a xs→IsDs K H xs ds→IsD K H (.ref a) (.list ds)
inductive IsDs (K:PySem.W.Frag) (H:Hp):List V→List PyData→Prop
 | nil:IsDs K H [] []
 | cons {x:V} {d:PyData} {xs:List V} {ds:List PyData}:IsD K H x d→IsDs K H xs ds→IsDs K H (x::xs) (d::ds)
end
section
variable {X:Cx}{pins:List (Addr×Obj)}{σ:St}{H:Hp}{s:Shared}
mutual
theorem at4 (I:Inv X pins σ H s):∀ {x:V} {d:PyData} {u:Value},IsD X.K H x d→RelV x u→∃ as,Reads s.heap u d as
 | _,_,_,.non,r=>by cases r;exact⟨_,.none⟩
 | _,_,_,.bl b,r=>by cases r;exact⟨_,.bool b⟩
 | _,_,_,.int i,r=>by obtain⟨t,rfl⟩:=r;exact⟨_,.int i t⟩
 | _,_,_,.str y,r=>by obtain⟨t,rfl⟩:=r;exact⟨_,.str y t⟩
 | _,_,_,.tup h hs,r=>by
  cases r
  obtain⟨its,rv,⟨o,ho,hc,n,hd⟩,hz⟩:=I.tuple h
  obtain⟨as,q⟩:=av6 I hs rv
  exact⟨_,.tuple ho hc hd (by simpa using q)⟩
 | _,_,_,.lst h hs,r=>by
  cases r
  obtain⟨its,rv,⟨o,n,ho,hc,_,hd⟩,hz⟩:=I.list h
  obtain⟨as,q⟩:=av6 I hs rv
  exact⟨_,.list ho hc hd (by simpa using q)⟩
theorem av6 (I:Inv X pins σ H s):∀ {xs:List V} {ds:List PyData} {us:List Value},IsDs X.K H xs ds→Vals xs us→∃ as,ReadsAll s.heap us ds as
 | _,_,_,.nil,r=>by cases r;exact⟨_,.nil⟩
 | _,_,_,.cons h hs,r=>by
  cases r with
  | cons r1 r2 =>
   obtain⟨as,q⟩:=at4 I h r1
   obtain⟨bs,q'⟩:=av6 I hs r2
   exact⟨_,.cons q q'⟩
end
theorem bQ1:OpR X (compareOp .Eq) (fun x y H Q=>∃ d d',IsD X.K H x d∧IsD X.K H y d'∧d.canLay0=true∧d'.canLay0=true∧X.A.units+d.depth < cLine∧Q (.bl (PyData.eqv d d')) H):=by
 intro pins s σ H x y v u Q I rx ry h
 obtain⟨d,d',h1,h2,c1,c2,hu,q⟩:=h
 obtain⟨as,r1⟩:=at4 I h1 rx
 obtain⟨bs,r2⟩:=at4 I h2 ry
 exact SeqAt.compareEq_reads r1 r2 c1 c2 (by omega) (ac8 I q rfl)
theorem bQ2:OpR X (compareOp .NotEq) (fun x y H Q=>∃ d d',IsD X.K H x d∧IsD X.K H y d'∧d.canLay0=true∧d'.canLay0=true∧X.A.units+d.depth < cLine∧Q (.bl (!PyData.eqv d d')) H):=by
 intro pins s σ H x y v u Q I rx ry h
 obtain⟨d,d',h1,h2,c1,c2,hu,q⟩:=h
 obtain⟨as,r1⟩:=at4 I h1 rx
 obtain⟨bs,r2⟩:=at4 I h2 ry
 exact SeqAt.compareNe_reads r1 r2 c1 c2 (by omega) (ac8 I q rfl)
end
theorem bn0 {A:Around}{k n:Nat}(hr:Room k A)(h:n≤64):A.units+n < cLine:=by
 have:=hr.units
 omega
theorem ba8 {a b:Int}(h:b≠0):(a.fmod b).natAbs < b.natAbs:=by
 by_cases hb:0 < b
 ·have:=Int.fmod_nonneg_of_pos a hb
  have:=Int.fmod_lt_of_pos a hb
  omega
 ·have hn:0 < -b:=by omega
  have h1:=Int.fmod_nonneg_of_pos (-a) hn
  have h2:=Int.fmod_lt_of_pos (-a) hn
  rw [Int.neg_fmod_neg] at h1 h2
  omega
section
variable {prog:Program}{w:World}{A:Around}{R:Result→Shared→Prop}{s:Shared}
theorem ba9 {elt target iter:Expr}{scope:Scope}{pos:Pos}{it acc:Value}{env:Env}(J:Nat→Shared→Prop)
  (turn:∀ n s,J n s→∀ E:Value→Shared→Prop,wpAny (model prog w) A (pyNext it) (fun r s₁=>(r=none∧R (.ok .next) s₁)∨∃ v,r=some v ∧
   wpAny (model prog w) A (letOwnedTupleGo target it v) (fun _ s₂=>wpAny (model prog w) A (assign target env v) (fun _ s₃=>wpAny (model prog w) A (eval elt env) (fun y s₄ =>
    wpAny (model prog w) A (call (.builtin "list.append") [acc,y]) (fun _ s₅=>∃ m,m < n∧J m s₅) E s₄) E s₃) E s₂) E s₁) E s)
  (n:Nat) (h:J n s):codeAny (model prog w) A (.compLoop (.ListComp elt [⟨target,iter,[],0⟩] scope pos) 0 it acc env) R s:=by
 refine codeAny_loop rfl J (fun n s hJ=>?_) n h
 refine wpAny_noted ?_
 rw [compTurn_list1]
 refine wpAny_bind (wpAny_standAt (wpAny_bind (thn (turn n s hJ _) fun r s₁ h₁=>?_)))
 rcases h₁ with ⟨rfl,h₁⟩ | ⟨v,rfl,h₁⟩
 ·exact wpAny_pure h₁
 ·refine wpAny_bind (thn h₁ fun _ s₂ h₂=>wpAny_bind (thn h₂ fun _ s₃ h₃=>?_))
  exact wpAny_bind (wpAny_bind (thn h₃ fun y s₄ h₄=>wpAny_bind (thn h₄ fun _ s₅ h₅=>wpAny_pure (wpAny_pure ⟨rfl,h₅⟩))))
end
section
variable {X:Cx}{pins:List (Addr×Obj)}{σ:St}{H:Hp}{s:Shared}{scope:Scope}{x:Str}{fp:List Addr}
structure FpIn (X:Cx) (pins:List (Addr×Obj)) (h:Heap) (fp:List Addr):Prop where
 lt:∀ b∈fp,b < h.objs.size
 loc:∀ b∈fp,b≠X.env.locals
 fs:∀ b∈fp,b ∉ X.fs
 own:∀ b∈fp,b∈X.ex∨X.s₀.heap.objs.size≤b
 cl:∀ b∈fp,∀ x c,X.env.cells.lookup x=some c→c≠b
 pn:∀ b∈fp,∀ p∈X.pn++pins,p.1≠b
theorem FpIn.stack (f:FpIn X pins s.heap fp)(I:Inv X pins σ H s):∀ b∈fp,b ∉ frs X.stack:=fun b hb z=>by
 rcases mem_cons.mp (I.stkSub b z) with e | e
 ·exact f.loc b hb e
 ·exact f.fs b hb e
theorem FpIn.base (f:FpIn X pins s.heap fp)(I:Inv X pins σ H s):∀ b o,X.base.get? b=some o→b ∉ fp:=fun b o e hb=>by
 rcases f.own b hb with z | z
 ·exact I.ok.noex b o e z
 ·exact absurd (lt_of_lt_of_le (Heap.lt_size (I.ok.bs b o e).1) z) (lt_irrefl _)
end
section
variable {X:Cx}{pins:List (Addr×Obj)}{σ:St}{H:Hp}{s:Shared}{h':Heap}{fp:List Addr}
theorem aR2 {t:Nat}(I:Inv X pins σ H s)(f:∀ b∈fp,FpOk X pins H b)(k:∀ b o,b ∉ fp→s.heap.get? b=some o→h'.get? b=some o):Inv X pins σ H { s with heap:=h',toks:=t }:=by
 have nit:∀ b u,H b=some u→b ∉ fp:=fun b u e z=>by rw [(f b z).1] at e;cases e
 refine I.step (g':=s.gens) (d':=s.drawn) (ch:=fp) (fun b hb=>⟨(f b hb).2.2.2.1,(f b hb).2.1,(f b hb).2.2.2.2.1,(f b hb).2.2.2.2.2⟩) (fun b o _ _ hc e _=>k b o hc e) (fun b o _ _ hc e _=>⟨o.slots,k b o hc e⟩) (fun _ _ _ _ n=>n)
  (fun b o hc e=>⟨o,k b o hc e⟩) (fun _ _ e=>e) (fun _ _ _ e=>e) (fun b ps e=>⟨#[],by rw [e];simp⟩) (fun m hm=>?_) (fun b u e=>?_) I.bare
 ·obtain⟨o,es,ep,ho,r⟩:=hm
  exact⟨o,es,ep,k _ o (fun z=>(f _ z).2.1 rfl) ho,r⟩
 ·refine (I.hok b u e).stay (fun c v hc q=>k c v ?_ q) (fun _ q=>q) fun _ _ q=>q
  rcases hc with z | z
  ·rw [z];exact nit b u e
  ·exact nit c _ z
theorem aV1 {t:Nat}{T:Addr}{o:HO}(I:Inv X pins σ H s)(f:∀ b∈fp,FpOk X pins H b)(hT:s.heap.objs.size≤T)(k:∀ b o,b ∉ fp→s.heap.get? b=some o→h'.get? b=some o)(new:ObjOk X.prog X.w (upd H T o) h' T o) :
  Inv X pins σ (upd H T o) { s with heap:=h',toks:=t }:=by
 have nT:H T=none:=I.hok.fresh hT
 have nit:∀ b u,H b=some u→b ∉ fp:=fun b u e z=>by rw [(f b z).1] at e;cases e
 have ltT:∀ b ob,s.heap.get? b=some ob→b≠T:=fun b ob e=>ne_of_lt (lt_of_lt_of_le (Heap.lt_size e) hT)
 refine I.step (g':=s.gens) (d':=s.drawn) (ch:=fp) (fun b hb=>⟨(f b hb).2.2.2.1,(f b hb).2.1,(f b hb).2.2.2.2.1,(f b hb).2.2.2.2.2⟩) (fun b o _ _ hc e _=>k b o hc e) (fun b o _ _ hc e _=>⟨o.slots,k b o hc e⟩)
  (fun b ob _ e n=>by rw [ab2 (ltT b ob e)];exact n) (fun b o hc e=>⟨o,k b o hc e⟩) (fun b _ e=>by rw [ab2 (ad8 e nT)];exact e) (fun b _ _ e=>by rw [ab2 (ad8 e nT)];exact e)
  (fun b ps e=>⟨#[],by rw [ab2 (ad8 e nT),e];simp⟩) (fun m hm=>?_) (fun b u e=>?_) I.bare
 ·obtain⟨o,es,ep,ho,r⟩:=hm
  exact⟨o,es,ep,k _ o (fun z=>(f _ z).2.1 rfl) ho,r⟩
 ·by_cases hb:b=T
  ·subst hb
   rw [ab5] at e
   cases e
   exact new
  ·rw [ab2 hb] at e
   refine (I.hok b u e).stay (fun c v hc q=>k c v ?_ q) (fun c q=>by rw [ab2 (ad8 q nT)];exact q) fun c _ q=>by rw [ab2 (ad8 q nT)];exact q
   rcases hc with z | z
   ·rw [z];exact nit b u e
   ·exact nit c _ z
end
def Itz (K:PySem.W.Frag)(a b:Addr):It :=
  ⟨fun i H=>∃ xs ys x y,SqL K H a xs∧SqL K H b ys∧xs[i]?=some x∧ys[i]?=some y,
   fun i H v H'=>∃ T x y,v=.ref T∧H T=none∧H'=upd H T (.tup [x,y])∧∀ xs ys,SqL K H a xs→SqL K H b ys→xs[i]?=some x∧ys[i]?=some y,
   fun i H=>∃ xs ys,SqL K H a xs∧SqL K H b ys∧(xs.length≤i∨ys.length≤i)⟩
theorem bv2 {P:Program}{w:World}{K:PySem.W.Frag}{es:List Expr}{x1}{pos:Pos}{z TI TO i1 i2 a b:Addr}(D:ZipApart z TI TO i1 i2 a b) :
  Turn P w K (.Tuple es x1 pos) (Itz K a b) [z,TI,TO,i1,i2] z (fun i h=>IsZip h z TI TO .none∧IsPair h TI (.ref i1) (.ref i2)∧(∃ u v,IsPair h TO u v)∧h.IsListIter i1 a i∧h.IsListIter i2 b i) where
 mem:=by simp
 obj:=fun i h st c hc=>by
  obtain⟨hz,hI,⟨u,v,hO⟩,⟨o1,e1,c1,d1⟩,⟨o2,e2,c2,d2⟩⟩:=st
  simp only [mem_cons,not_mem_nil,or_false] at hc
  rcases hc with rfl | rfl | rfl | rfl | rfl
  ·exact⟨_,hz,fun v q=>by cases q⟩
  ·exact⟨_,hI,fun v q=>by cases q⟩
  ·exact⟨_,hO,fun v q=>by cases q⟩
  ·exact⟨_,e1,fun v q=>by rw [d1] at q;cases q⟩
  ·exact⟨_,e2,fun v q=>by rw [d2] at q;cases q⟩
 keep:=fun i h h' st k=>by
  obtain⟨hz,hI,⟨u,v,hO⟩,h1,h2⟩:=st
  exact⟨k z (by simp) _ hz,k TI (by simp) _ hI,⟨u,v,k TO (by simp) _ hO⟩,h1.at fun o e=>k i1 (by simp) o e,h2.at fun o e=>k i2 (by simp) o e⟩
 item:=by
  intro X hP hw hK hc i pins s σ H E I hf st hg
  subst hP hw hK
  obtain⟨xs,ys,x,y,q1,q2,hx,hy⟩:=hg
  obtain⟨its1,r1,p1,_⟩:=I.list q1
  obtain⟨its2,r2,p2,_⟩:=I.list q2
  obtain⟨u1,e1,ru1⟩:=r1.get hx
  obtain⟨u2,e2,ru2⟩:=r2.get hy
  obtain⟨hz,hI,⟨u,v,hO⟩,h1,h2⟩:=st
  refine wpAny_pyNext_zip_item D hz hI hO h1 h2 p1.isList p2.isList (x:=u1) (y:=u2) (by simpa using e1) (by simpa using e2) fun h' hz' hO' h1' h2' hT hsz hk=>⟨_,rfl,?_⟩
  refine wpAny_letOwnedTupleGo_zip hz' fun h'' hz'' hs=>?_
  have ltz:z < s.heap.objs.size:=Heap.lt_size hz
  have nz:s.heap.objs.size≠z:=ne_of_gt ltz
  have nT:H s.heap.objs.size=none:=I.hok.fresh (le_refl _)
  have up:∀ c o,c≠z→h'.get? c=some o→h''.get? c=some o:=fun c o n e=>(hs.2 c n).trans e
  have fnone:∀ c∈[z,TI,TO,i1,i2],upd H s.heap.objs.size (.tup [x,y]) c=none:=fun c hc=>by
   have ne:c≠s.heap.objs.size:=by
    obtain⟨_,e1,_⟩:=id h1
    obtain⟨_,e2,_⟩:=id h2
    simp only [mem_cons,not_mem_nil,or_false] at hc
    rcases hc with rfl | rfl | rfl | rfl | rfl
    ·exact ne_of_lt ltz
    ·exact ne_of_lt (Heap.lt_size hI)
    ·exact ne_of_lt (Heap.lt_size hO)
    ·exact ne_of_lt (Heap.lt_size e1)
    ·exact ne_of_lt (Heap.lt_size e2)
   rw [ab2 ne]
   exact (hf c hc).1
  refine⟨.ref s.heap.objs.size,upd H s.heap.objs.size (.tup [x,y]),aV1 (s:=s) (h':=h'') (t:=s.toks) I hf (le_refl _) (fun c o hc e=>?_) ⟨len2,[u1,u2],.cons ru1 (.cons ru2 .nil),⟨_,up _ _ nz hT,rfl,_,rfl⟩⟩,rfl,
   ⟨_,x,y,rfl,nT,rfl,fun xs' ys' z1 z2=>?_⟩,⟨hz'',up _ _ D.TIz (hk _ _ D.TIz ?_ ?_ ?_ hI),⟨_,_,up _ _ D.TOz hO'⟩,h1'.at fun o e=>up _ _ ?_ e,h2'.at fun o e=>up _ _ ?_ e⟩,fnone⟩
  ·simp only [mem_cons,not_mem_nil,or_false,not_or] at hc
   exact up _ _ hc.1 (hk _ _ hc.1 hc.2.2.1 hc.2.2.2.1 hc.2.2.2.2 e)
  ·rw [I.list_inj z1 q1,I.list_inj z2 q2]
   exact⟨hx,hy⟩
  all_goals first | exact D.TITO | exact D.TIi1 | exact D.TIi2 | exact D.i1z | exact D.i2z | skip
 done:=by
  intro X hP hw hK hc i pins s σ H E I hf st hg
  subst hP hw hK
  obtain⟨xs,ys,q1,q2,hend⟩:=hg
  obtain⟨its1,r1,p1,_⟩:=I.list q1
  obtain⟨its2,r2,p2,_⟩:=I.list q2
  have n1:=r1.length
  have n2:=r2.length
  obtain⟨hz,hI,⟨u,v,hO⟩,h1,h2⟩:=st
  refine wpAny_pyNext_zip_end (I.ok.hd hc) D hz hI hO h1 h2 p1.isList p2.isList (by
   rcases hend with e | e
   ·exact .inl (by simp;omega)
   ·exact .inr (by simp;omega)) fun h' hk=>⟨rfl,aR2 (t:=s.toks) I hf fun c o hc e=>?_⟩
  simp only [mem_cons,not_mem_nil,or_false,not_or] at hc
  exact hk _ _ hc.1 hc.2.2.1 hc.2.2.2.1 hc.2.2.2.2 e
 self:=fun _ _ _ _ _ st h=>wpAny_pyIter_zip st.1 h
def iZip (K:PySem.W.Frag)(ta:TA):TI:=fun σ H R=>ta σ H fun vs H1=>∃ a b xs ys,vs=[.ref a,.ref b]∧SqL K H1 a xs∧SqL K H1 b ys∧R (Itz K a b) H1
section
variable {X:Cx}
theorem bQ3 {es:List Expr}{x1}{tpos:Pos}{a b:Expr}{ta:TA}{p pos:Pos}(hg:Gl X "zip")(hm:X.mg "zip"=none)(ha:PA X [a,b] ta)(hs:starEach [a,b] X.env=[(false,eval a X.env),(false,eval b X.env)]:=by rfl)(hs2:starEach [b] X.env=[(false,eval b X.env)]:=by rfl) :
  PI X (.Tuple es x1 tpos) (.Call (.Name "zip" p) [a,b] [] pos) (iZip X.K ta):=by
 intro pins s σ H R I h
 refine Call_ (as7 I hg hm boot_zip (PyProof.Rows.callWith_type1 (thn (ha pos pins s σ H _ I h) fun us s1 ⟨vs,H1,I1,r1,q1⟩=>?_) (by rw [hs,hs2]) (by rw [hs2];rfl)))
 obtain⟨l1,l2,xs,ys,rfl,k1,k2,q⟩:=q1
 obtain⟨u,v,rfl,ru,rv⟩:=vals2 r1
 cases ru
 cases rv
 obtain⟨its1,e1,p1,_⟩:=I1.list k1
 obtain⟨its2,e2,p2,_⟩:=I1.list k2
 refine call_zip_2 p1.isList p2.isList fun h' hz hI hO g1 g2 hsz hk=>?_
 have I2:Inv X pins σ H1 { s1 with heap:=h' }:=I1.kept (t':=s1.toks) hk
 have lt1:l1 < s1.heap.objs.size:=by obtain⟨_,e,_⟩:=p1.isList;exact Heap.lt_size e
 have lt2:l2 < s1.heap.objs.size:=by obtain⟨_,e,_⟩:=p2.isList;exact Heap.lt_size e
 refine wpAny_pyIter_zip hz ⟨_,[s1.heap.objs.size+4,s1.heap.objs.size+2,s1.heap.objs.size+3,s1.heap.objs.size,s1.heap.objs.size+1],_,_,H1,rfl,I2,bv2 ?_,⟨hz,hI,⟨_,_,hO⟩,g1,g2⟩,fun c hc=>?_,q⟩
 ·constructor
  all_goals first | exact ne_of_lt lt1 | exact ne_of_lt lt2 | exact ne_of_lt (lt_of_lt_of_le lt1 (Nat.le_add_right _ _)) | exact ne_of_lt (lt_of_lt_of_le lt2 (Nat.le_add_right _ _)) | (intro e;have e':(_:Nat)=_:=e;omega)
 ·simp only [mem_cons,not_mem_nil,or_false] at hc
  have hc':s1.heap.objs.size≤c:=by
   rcases hc with rfl | rfl | rfl | rfl | rfl
   all_goals first | exact le_refl _ | exact Nat.le_add_right _ _
  exact I1.fpOk hc' (I1.hok.fresh hc')
end
end Fr
namespace Fr
open PySem
def ae2 (x y:Int):List Int:=if h:y≤0 then [] else (x / y)::ae2 y (x % y)
termination_by y.toNat
decreasing_by
 have h1:=emod_nonneg x (show y≠0 by omega)
 have h2:=emod_lt_of_pos x (show 0 < y by omega)
 omega
theorem ag1 {x y:Int}(h:y≤0):ae2 x y=[]:=by rw [ae2,dif_pos h]
theorem ag0 {x y:Int}(h:0 < y):ae2 x y=(x / y)::ae2 y (x % y):=by rw [ae2,dif_neg (by omega)]
theorem bv3 {y r:Int}{n:Nat}(h1:y < 2 ^ (n+1))(h0:0 < r)(h2:r < y):y % r < 2 ^ n:=by
 have e:(2:Int) ^ (n+1)=2*2 ^ n:=by rw [Int.pow_succ,Int.mul_comm]
 have l1:=emod_lt_of_pos y h0
 have l2:=Int.mul_ediv_add_emod y r
 have l3:1≤y / r:=by
  have:=(Int.le_ediv_iff_mul_le h0).mpr (show (1:Int)*r≤y by omega)
  exact this
 have l4:r*1≤r*(y / r):=Int.mul_le_mul_of_nonneg_left l3 (by omega)
 omega
theorem aR3:∀ (n:Nat) (x y:Int),y < 2 ^ n→(ae2 x y).length≤2*n+1
 | 0,x,y,h=>by rw [ag1 (by have:(2:Int) ^ 0=1:=rfl;omega)];simp
 | n+1,x,y,h=>by
  by_cases hy:0 < y
  ·rw [ag0 hy]
   have r0:=emod_nonneg x (show y≠0 by omega)
   have r1:=emod_lt_of_pos x hy
   by_cases hr:0 < x % y
   ·rw [ag0 hr]
    have:=aR3 n (x % y) (y % (x % y)) (bv3 h hr r1)
    simp only [length_cons]
    omega
   ·rw [ag1 (by omega)]
    simp only [length_cons,length_nil]
    omega
  ·rw [ag1 (by omega)]
   simp
theorem aR4:∀ (m:Nat) (x y:Int),y.toNat≤m→∀ B:Nat,x.natAbs≤B→y.natAbs≤B→∀ k∈ae2 x y,k.natAbs≤B
 | m,x,y,hm,B,hx,hy,k,hk=>by
  by_cases h:0 < y
  ·rw [ag0 h] at hk
   have r0:=emod_nonneg x (show y≠0 by omega)
   have r1:=emod_lt_of_pos x h
   rcases mem_cons.mp hk with rfl | hk
   ·have e:=Int.natAbs_ediv_le_natAbs x y
    omega
   ·match m,hm with
    | m+1,hm=>exact aR4 m y (x % y) (by omega) B hy (by omega) k hk
    | 0,hm=>omega
  ·rw [ag1 (by omega)] at hk
   cases hk
def ad0 (b l:Int×Int):List Int→List (Int×Int)
 | []=>[l]
 | k::r=>l::ad0 l (k*l.1+b.1,k*l.2+b.2) r
theorem ar3 (b l:Int×Int)(ks:List Int):(ad0 b l ks).length=ks.length+1:=by
 induction ks generalizing b l with
 | nil=>rfl
 | cons k r ih=>show (ad0 _ _ r).length+1=_;rw [ih];rfl
def NextTo (p q:Int×Int):Prop:=p.1*q.2 - p.2*q.1=1∨p.1*q.2 - p.2*q.1=-1
theorem NextTo.step {b l:Int×Int}(k:Int)(h:NextTo b l):NextTo l (k*l.1+b.1,k*l.2+b.2):=by
 unfold NextTo at *
 simp only
 have e:l.1*(k*l.2+b.2) - l.2*(k*l.1+b.1)=-(b.1*l.2 - b.2*l.1):=by grind
 rw [e]
 omega
theorem bb0 (n:Nat)(b l:Int×Int)(ks:List Int)(hk:∀ k∈ks,k.natAbs < 2 ^ n):∀ m:Nat,b.1.natAbs < 2 ^ m→b.2.natAbs < 2 ^ m→l.1.natAbs < 2 ^ m→l.2.natAbs < 2 ^ m →
  ∀ p∈ad0 b l ks,p.1.natAbs < 2 ^ (m+ks.length*(n+1))∧p.2.natAbs < 2 ^ (m+ks.length*(n+1)):=by
 induction ks generalizing b l with
 | nil =>
  intro m _ _ h3 h4 p hp
  have:p=l:=by simpa [ad0] using hp
  subst this
  simpa using And.intro h3 h4
 | cons k r ih =>
  intro m h1 h2 h3 h4 p hp
  have kk:=hk k (by simp)
  have lin:∀ u v:Int,u.natAbs < 2 ^ m→v.natAbs < 2 ^ m→(k*u+v).natAbs < 2 ^ (m+(n+1)):=fun u v hu hv=>by
   have a1:=natAbs_add_le (k*u) v
   rw [natAbs_mul] at a1
   have a2:k.natAbs*u.natAbs≤(2 ^ n - 1)*2 ^ m:=mul_le_mul (by omega) (le_of_lt hu)
   have a3:(2 ^ n - 1)*2 ^ m=2 ^ n*2 ^ m - 2 ^ m:=by rw [Nat.sub_mul,one_mul]
   have a4:2 ^ m≤2 ^ n*2 ^ m:=Nat.le_mul_of_pos_left _ (Nat.two_pow_pos n)
   have a5:2 ^ (m+(n+1))=2*(2 ^ n*2 ^ m):=by rw [pow_add,pow_succ];rw [mul_comm (2 ^ m),mul_comm (2 ^ n) 2,mul_assoc]
   omega
  have up:∀ u:Nat,u < 2 ^ m→u < 2 ^ (m+(n+1)):=fun u hu=>lt_of_lt_of_le hu (pow_le_pow_right (by decide) (by omega))
  have big:∀ u:Nat,u < 2 ^ m→u < 2 ^ (m+(k::r).length*(n+1)):=fun u hu=>lt_of_lt_of_le hu (pow_le_pow_right (by decide) (by omega))
  have hp':p=l∨p∈ad0 l (k*l.1+b.1,k*l.2+b.2) r:=by simpa [ad0] using hp
  rcases hp' with rfl | hp'
  ·exact⟨big _ h3,big _ h4⟩
  ·have:=ih l (k*l.1+b.1,k*l.2+b.2) (fun z hz=>hk z (by simp [hz])) (m+(n+1)) (up _ h3) (up _ h4) (lin _ _ h3 h1) (lin _ _ h4 h2) p hp'
   have e:m+(n+1)+r.length*(n+1)=m+(k::r).length*(n+1):=by rw [length_cons,add_mul];omega
   rw [e] at this
   exact this
theorem aq1:∀ (m:Nat) (x y:Int) (b l:Int×Int),y.toNat≤m→0≤y→(y=0→0 < x)→gcd x y=1→(ad0 b l (ae2 x y)).getLast?=some (l.1*x+b.1*y,l.2*x+b.2*y)
 | m,x,y,b,l,hm,hy,hx,hg=>by
  by_cases h:0 < y
  ·rw [ag0 h]
   have r0:=emod_nonneg x (show y≠0 by omega)
   have r1:=emod_lt_of_pos x h
   have e:=Int.mul_ediv_add_emod x y
   match m,hm with
   | m+1,hm =>
    have:=aq1 m y (x % y) l ((x / y)*l.1+b.1,(x / y)*l.2+b.2) (by omega) r0 (by omega) (by rw [aR1];exact hg)
    have q1:((x / y)*l.1+b.1)*y+l.1*(x % y)=l.1*x+b.1*y:=by
     have:l.1*x=l.1*(y*(x / y)+x % y):=by rw [e]
     rw [this];grind
    have q2:((x / y)*l.2+b.2)*y+l.2*(x % y)=l.2*x+b.2*y:=by
     have:l.2*x=l.2*(y*(x / y)+x % y):=by rw [e]
     rw [this];grind
    simp only at this
    rw [q1,q2] at this
    show (l::ad0 l _ _).getLast?=_
    rw [List.getLast?_cons,this]
    rfl
   | 0,hm=>omega
  ·have y0:y=0:=by omega
   subst y0
   rw [ag1 (by omega)]
   have e0:gcd x 0=x.natAbs:=gcd_zero_right x
   have x1:x=1:=by have:=hx rfl;omega
   subst x1
   show some l=_
   simp
end Fr
namespace Fr
open PySem PySem.Spec L2
open PyProof.Rows hiding St
section
variable {X:Cx}
theorem aV2:ai5 X (.builtin "divmod") (fun xs H Q=>∃ i j,xs=[.int i,.int j]∧(0 < j∧j < 2 ^ 250)∧∀ p,H p=none→Q (.ref p) (upd H p (.tup [.int (i / j),.int (i % j)]))):=by
 intro pins s σ H xs us Q I r h
 obtain⟨i,j,rfl,⟨h1,h2⟩,q⟩:=h
 obtain⟨u,w',rfl,⟨t,rfl⟩,⟨t',rfl⟩⟩:=vals2 r
 refine divmod_int (by omega) ?_ (.inl (PyProof.noPylong_of_log2 (aN8 (by omega))))
 rw [Int.fdiv_eq_ediv_of_nonneg i (by omega),Int.fmod_eq_emod_of_nonneg i (by omega)]
 refine⟨.ref s.heap.objs.size,_,I.laid (o:=.tup [.int (i / j),.int (i % j)]) (fun b o e=>Heap.get?_push_of_some _ e) (le_refl _) ⟨len2,[.int (i / j) s.toks,.int (i % j) (s.toks+1)],.cons ⟨_,rfl⟩ (.cons ⟨_,rfl⟩ .nil),?_⟩,rfl,q _ (I.hok.fresh (le_refl _))⟩
 exact⟨_,Heap.get?_push_size s.heap rfl,rfl,0,rfl⟩
def CW (i j:Int):Prop:=∃ n:Nat,i.natAbs < 2 ^ n∧j.natAbs < 2 ^ n∧n≤2 ^ 20
theorem ac1:OpR X (binaryOp .Mult) (rI CW fun i j=>.int (i*j)):=opI fun _ _ _ _ _ _ _ hc q=>by
 obtain⟨n,h1,h2,h3⟩:=hc
 exact mul_int q (IntMulOk.of_bits (le_trans (intBits_le_iff.mpr h1) h3) (le_trans (intBits_le_iff.mpr h2) h3))
end
theorem ak6 {K:PySem.W.Frag}{H H':Hp}{a:Addr}{xs:List V}(e:Same H H')(h:SqT K H a xs):SqT K H' a xs:=by
 rcases h with (h | ⟨o,h⟩) | h
 ·exact .inl (.inl (e _ _ h))
 ·exact .inl (.inr ⟨o,e _ _ h⟩)
 ·exact .inr h
theorem bn1 {α:Type}(xs:List α):((List.range xs.length).map fun k=>xs.length - 1 - k).filterMap (xs[·]?)=xs.reverse:=by
 apply ext_getElem?
 intro i
 have e:((List.range xs.length).map fun k=>xs.length - 1 - k).filterMap (xs[·]?)=(List.range xs.length).filterMap fun k=>xs[xs.length - 1 - k]?:=by rw [filterMap_map];rfl
 rw [e]
 have e2:((List.range xs.length).filterMap fun k=>xs[xs.length - 1 - k]?)=(List.range xs.length).pmap (fun k (h:k < xs.length)=>xs[xs.length - 1 - k]'(by omega)) (fun k hk=>mem_range.mp hk):=by
  generalize hp:(fun k (hk:k∈List.range xs.length)=>mem_range.mp hk)=pf
  clear hp
  have gen:∀ (l:List Nat) (hl:∀ k∈l,k < xs.length),(l.filterMap fun k=>xs[xs.length - 1 - k]?)=l.pmap (fun k (h:k < xs.length)=>xs[xs.length - 1 - k]'(by omega)) hl:=by
   intro l
   induction l with
   | nil=>intro _;rfl
   | cons a r ih =>
    intro hl
    have ha:=hl a (by simp)
    rw [filterMap_cons,getElem?_eq_getElem (by omega),List.pmap_cons]
    simp only
    rw [ih fun k hk=>hl k (by simp [hk])]
  exact gen _ pf
 rw [e2]
 by_cases hi:i < xs.length
 ·rw [List.getElem?_reverse hi,List.getElem?_pmap]
  rw [getElem?_eq_getElem (show xs.length - 1 - i < xs.length by omega)]
  have:(List.range xs.length)[i]?=some i:=by rw [getElem?_range hi]
  simp [this]
 ·rw [getElem?_eq_none (by simp;omega),getElem?_eq_none (by simp;omega)]
theorem bv4 (its:List Value):slicePick its.toArray none none (some (-1))=its.reverse.toArray:=by
 unfold slicePick sliceBounds
 simp only [Option.getD_some,show ¬ ((-1:Int) > 0) by decide,if_false]
 congr 1
 have e:sliceRange ((its.toArray.size:Int) - 1) (-1) (-1)=(List.range its.length).map fun k=>its.length - 1 - k:=by
  unfold sliceRange
  simp only [show ¬ ((-1:Int) > 0) by decide,if_false]
  have ec:(if ((its.toArray.size:Int) - 1) > -1 then ((its.toArray.size:Int) - 1 - (-1) - (-1) - 1) / (- (-1)) else 0).toNat=its.length:=by
   have hs:its.toArray.size=its.length:=by simp
   rw [hs]
   split
   ·have:((its.length:Int) - 1 - (-1) - (-1) - 1) / (- (-1))=its.length:=by
     have:(- (-1:Int))=1:=by decide
     rw [this,Int.ediv_one]
     omega
    rw [this]
    omega
   ·omega
  rw [ec]
  apply map_congr_left
  intro k hk
  have hk':k < its.length:=mem_range.mp hk
  have hs:its.toArray.size=its.length:=by simp
  rw [hs]
  omega
 rw [e]
 have:=bn1 its
 simpa using this
section
variable {X:Cx}{e:Expr}{te:TE}{pos p2:Pos}
def tRev (K:PySem.W.Frag)(te:TE):TE:=fun σ H Q=>te σ H fun x H1=>∃ a xs,x=.ref a∧SqL K H1 a xs∧∀ p,H1 p=none→Q (.ref p) (upd H1 p (.lst xs.reverse))
theorem bQ4 {q1 q2:Pos}{k:Nat}(he:PE X e te):PE X (.Subscript e (.Slice none none (some (.UnaryOp .USub (.Constant (.int 1) k q1) q2)) p2) pos) (tRev X.K te):=by
 intro pins s σ H Q I h
 refine Subscript_ (thn (he pins s σ H _ I h) fun v s1 ⟨x,H1,I1,r1,q1⟩=>?_)
 obtain⟨a,xs,rfl,hq,q⟩:=q1
 cases r1
 refine wpAny_Slice ?_
 rw [evalPart_none]
 refine wpAny_pure (wpAny_pure ?_)
 rw [evalPart_some]
 refine thn (bC0 bl9 bl3 pins s1 σ H1 (fun v H'=>v=.int (-1)∧H'=H1) I1 ⟨1,rfl,rfl,rfl⟩) fun vs s2 ⟨y,H2,I2,r2,ey,eh⟩=>?_
 subst ey
 subst eh
 obtain⟨t,rfl⟩:=r2
 have I3:Inv X pins σ H2 { s2 with heap:=s2.heap.push { cls:=.type "slice",data:=.fields #[.none,.none,.int (-1) t] } }:=I2.kept (t':=s2.toks) fun b ob q=>Heap.get?_push_of_some _ q
 obtain⟨its,r,ht,hz⟩:=I3.list hq
 have hlen:=r.length
 show wpAny (model X.prog X.w) X.A (subscriptTail e (.Slice none none (some (.UnaryOp .USub (.Constant (.int 1) k _) _)) p2) (.ref a) (.ref s2.heap.objs.size)) (EP X pins σ Q) X.xe { s2 with heap:=s2.heap.push { cls:=.type "slice",data:=.fields #[.none,.none,.int (-1) t] } }
 refine tail_any (ops:=[.ref a,.ref s2.heap.objs.size]) ht.isList.typeIs slot_list_getitem.lookup ?_ (by with_unfolding_all rfl)
 refine wpAny_getItem_list_slice (st:=some (-1)) ht.isList (Heap.IsSliceOf.new ..) .none .none (.int _ _) (by decide) ?_ (by rw [size_toArray] <;> omega)
 rw [bv4]
 refine⟨.ref _,_,I3.laid (o:=.lst xs.reverse) (fun b ob q=>Heap.get?_push_of_some _ q) (le_refl _) ?_,rfl,q _ (I3.hok.fresh (le_refl _))⟩
 exact⟨by rw [length_reverse];exact hz,_,0,r.reverse,Heap.get?_push_size _ rfl⟩
end
end Fr
namespace PySem
open Sem (wp)
namespace Heap
def TracedV (h base:Heap)(e:Addr)(cls a0:Value):Prop :=
 ∃ oe vs T oT ts,h.get? e=some oe∧(oe.cls=cls∧vs[0]?=some a0∧vs[2]?=some .none)∧oe.data=.fields vs∧vs[1]?=some (.ref T)∧base.get? T=none∧T≠e∧h.get? T=some oT∧oT.data=.fields ts∧ts[3]?=some .none
end Heap
section
variable {M:Model}{A:Around}{E:Value→Shared→Prop}{s:Shared}
def Heap.LeftV (base:Heap)(l:List Env)(e:Addr)(cls a0:Value)(h h':Heap):Prop :=
 base.StaysIn h'∧h'.FunFrames base l∧h'.TracedV base e cls a0 ∧
  ∀ b o,h.get? b=some o→(∀ vs,o.data≠.fields vs)→∃ sl,h'.get? b=some { o with slots:=sl }
theorem au8 {base:Heap}{env:Env}{outer:List Env}{L e:Addr}{oe:Obj}{vs:Array Value}{head a0:Value}{hadNext:Bool}{Q:Unit→Shared→Prop}
  (hfr:A.frames=some (env::outer)) (hl:s.heap.FunFrames base (env::outer)) (hf:env.frame=some L)
  (he:s.heap.get? e=some oe) (hkb:base.StaysIn s.heap) (hen:base.get? e=none) (hd:oe.data=.fields vs) (hsz:1 < vs.size) (h0:vs[0]?=some a0∧vs[2]?=some .none)
  (h:∀ h',Heap.LeftV base (env::outer) e oe.cls a0 s.heap h'→Q () { s with heap:=h' }) :
  wpAny M A (do let a ← frameOf env;let pl ← entryPlaceOf L hadNext;let b ← EntryCells.newEntry head a .none (rawInt L) .none pl;setField (.ref e) 1 b) (fun _ s'=>wpAny M A (setFlight (.ref e) none) Q E s') E s:=by
 have hene:e ∉ (env::outer).filterMap (·.frame):=fun hm=>by
  obtain⟨_,o,ho,hnf⟩:=hl.mem hm
  rw [he] at ho;injection ho with ho;subst ho;exact hnf vs hd
 refine wpAny_bind (wpAny_frameOf_fun hfr hl hf fun h₁ hs₁=>?_)
 refine wpAny_bind (wpAny_entryPlaceOf fun pl hpl=>?_)
 unfold EntryCells.newEntry newFields
 refine wpAny_bind (wpAny_newObj_type ?_ (hpl.sizeOk5 _ _ _ _ _))
 have he₁:h₁.get? e=some oe:=(hs₁.2.1 e hene).trans he
 have kb₁:base.StaysIn h₁:=fun b o hbo=>(hs₁.2.1 b fun hm=>by rw [(hl.mem hm).1] at hbo;cases hbo).trans (hkb b o hbo)
 have he₂:=Heap.get?_push_of_some (h:=h₁) { cls:=.type "traceback",dict:=none,data:=.fields ([head,.ref L,.none,rawInt L,.none]++(if pl.isEmpty then replicate 6 Value.none else pl)).toArray } he₁
 refine wpAny_setField he₂ hd hsz ?_
 have hTe:h₁.objs.size≠e:=ne_of_gt (Heap.lt_size he₁)
 have hd₃:=Obj.data_mapFields hd (·.setIfInBounds 1 (Value.ref h₁.objs.size))
 have he₃:=Heap.get?_update_self (Obj.mapFields (·.setIfInBounds 1 (Value.ref h₁.objs.size))) he₂ (Obj.isFreed_of_fields hd₃)
 have hT₃:=(Heap.get?_update_other (h₁.push { cls:=.type "traceback",dict:=none,data:=.fields ([head,.ref L,.none,rawInt L,.none]++(if pl.isEmpty then replicate 6 Value.none else pl)).toArray })
  (Obj.mapFields (·.setIfInBounds 1 (Value.ref h₁.objs.size))) (Ne.symm hTe)).trans (Heap.get?_push_size h₁ rfl)
 unfold setFlight
 refine wpAny_bind (wpAny_field he₃ hd₃ (x:=.ref h₁.objs.size) (by simp [hsz]) ?_)
 rw [if_pos (show (Value.ref h₁.objs.size != Value.none)=true from by simp)]
 refine wpAny_setField hT₃ rfl (by simp only [size_toArray,length_append,length_cons,length_nil] <;> omega) (h _ ?_)
 have keep:∀ b o,b≠e→h₁.get? b=some o →
   (((h₁.push { cls:=.type "traceback",dict:=none,data:=.fields ([head,.ref L,.none,rawInt L,.none]++(if pl.isEmpty then replicate 6 Value.none else pl)).toArray }).update e (Obj.mapFields (·.setIfInBounds 1 (Value.ref h₁.objs.size)))).update h₁.objs.size
    (Obj.mapFields (·.setIfInBounds 3 ((none:Option Addr).elim Value.none fun f=>rawInt f)))).get? b=some o:=fun b o hbe hb=>by
  have hbT:h₁.objs.size≠b:=ne_of_gt (Heap.lt_size hb)
  rw [Heap.get?_update_other _ _ hbT,Heap.get?_update_other _ _ (Ne.symm hbe)]
  exact Heap.get?_push_of_some _ hb
 have noRecord:∀ b o,s.heap.get? b=some o→(∀ vs,o.data≠.fields vs)→b≠e:=fun b o hb hnf q=>by
  rw [q,he] at hb;injection hb with hb;subst hb;exact hnf vs hd
 refine⟨fun b o hbo=>keep b o (fun q=>by rw [q,hen] at hbo;cases hbo) (kb₁ b o hbo),hl.of_keeps fun b o hb hnf=>?_,?_,fun b o hb hnf=>?_⟩
 ·obtain⟨sl,hs⟩:=hs₁.2.2 b o hb
  exact⟨_,keep b _ (noRecord b o hb hnf) hs,rfl⟩
 ·refine⟨_,_,h₁.objs.size,_,_,?_,⟨Obj.cls_mapFields _ _,⟨by rw [Array.getElem?_setIfInBounds_ne (by decide)];exact h0.1,by rw [Array.getElem?_setIfInBounds_ne (by decide)];exact h0.2⟩⟩,hd₃,by simp [hsz],kb₁.fresh,hTe,Heap.get?_update_self _ hT₃ (Obj.isFreed_of_fields (Obj.data_mapFields rfl _)),Obj.data_mapFields rfl _,by first | (simp;done) | (rcases hpl with rfl | ⟨_,_,_,_,_,_,_,rfl⟩ <;> simp)⟩
  rw [Heap.get?_update_other _ _ hTe];exact he₃
 ·obtain⟨sl,hs⟩:=hs₁.2.2 b o hb
  exact⟨sl,keep b _ (noRecord b o hb hnf) hs⟩
theorem ay5 {base:Heap}{env:Env}{outer:List Env}{L e:Addr}{oe:Obj}{vs:Array Value}{a0:Value}{Q:Unit→Shared→Prop}
  (hfr:A.frames=some (env::outer)) (hl:s.heap.FunFrames base (env::outer)) (hf:env.frame=some L)
  (he:s.heap.get? e=some oe) (hkb:base.StaysIn s.heap) (hen:base.get? e=none) (hd:oe.data=.fields vs) (h1:vs[1]?=some .none) (h0:vs[0]?=some a0∧vs[2]?=some .none)
  (h:∀ h',Heap.LeftV base (env::outer) e oe.cls a0 s.heap h'→Q () { s with heap:=h' }):wpAny M A (leaving env (.ref e)) Q E s:=by
 unfold leaving noteFrame
 simp only [hf]
 refine wpAny_bind (wpAny_bind (wpAny_field he hd h1 ?_))
 rw [if_neg (by decide)]
 exact au8 hfr hl hf he hkb hen hd (Array.getElem?_eq_some_iff.mp h1).1 h0 h
theorem aB1 {base:Heap}{env:Env}{outer:List Env}{L e:Addr}{cls a0:Value}{Q:Unit→Shared→Prop}
  (hfr:A.frames=some (env::outer)) (hl:s.heap.FunFrames base (env::outer)) (hf:env.frame=some L) (ht:s.heap.TracedV base e cls a0) (hkb:base.StaysIn s.heap) (hen:base.get? e=none)
  (h:∀ h',Heap.LeftV base (env::outer) e cls a0 s.heap h'→Q () { s with heap:=h' }):wpAny M A (leaving env (.ref e)) Q E s:=by
 obtain⟨oe,vs,T,oT,ts,he,⟨hcls,h0⟩,hd,h1,hnT,hTe,hT,hdT,h3⟩:=ht
 subst hcls
 unfold leaving noteFrame
 simp only [hf]
 refine wpAny_bind (wpAny_bind (wpAny_field he hd h1 ?_))
 rw [if_pos (show (Value.ref T != Value.none)=true from by simp)]
 refine wpAny_bind (wpAny_field hT hdT h3 ?_)
 rw [if_neg (show ¬ ((Value.none == rawInt L)=true) from by simp [rawInt])]
 refine wpAny_bind (wpAny_setField hT hdT (Array.getElem?_eq_some_iff.mp h3).1 ?_)
 have other:∀ b,b≠T→(s.heap.update T (Obj.mapFields (·.setIfInBounds 3 Value.none))).get? b=s.heap.get? b:=fun b hb=>Heap.get?_update_other _ _ (Ne.symm hb)
 have noRecord:∀ b o,s.heap.get? b=some o→(∀ vs,o.data≠.fields vs)→b≠T:=fun b o hb hnf q=>by
  rw [q,hT] at hb;injection hb with hb;subst hb;exact hnf ts hdT
 refine au8 hfr (hl.of_keeps fun b o hb hnf=>⟨o,(other b (noRecord b o hb hnf)).trans hb,rfl⟩) hf ((other e (Ne.symm hTe)).trans he)
  (fun b o hbo=>(other b fun q=>by rw [q,hnT] at hbo;cases hbo).trans (hkb b o hbo)) hen hd (Array.getElem?_eq_some_iff.mp h1).1 h0
  fun h' ⟨x1,x2,x3,x4⟩=>h h' ⟨x1,x2,x3,fun b o hb hnf=>x4 b o ((other b (noRecord b o hb hnf)).trans hb) hnf⟩
def Heap.FlyingV (base:Heap)(l:List Env)(e:Addr)(cls a0:Value)(h:Heap):Prop :=
 base.StaysIn h∧base.get? e=none∧h.FunFrames base l∧h.TracedV base e cls a0
theorem aI2 {base:Heap}{env:Env}{outer:List Env}{L e:Addr}{cls a0:Value}{Q:Unit→Shared→Prop}
  (hfr:A.frames=some (env::outer)) (hf:env.frame=some L) (hfl:Heap.FlyingV base (env::outer) e cls a0 s.heap)
  (hQ:∀ h',Heap.FlyingV base outer e cls a0 h'→s.heap.UpToSlots h'→Q () { s with heap:=h' }):wpAny M A (leaving env (.ref e)) Q E s:=by
 obtain⟨f1,f2,f3,f4⟩:=hfl
 refine aB1 hfr f3 hf f4 f1 f2 fun h' hL=>?_
 obtain⟨k1,⟨_,_,k2⟩,k3,k4⟩:=hL
 exact hQ h' ⟨k1,f2,k2,k3⟩ k4
theorem aB9 {base h:Heap}{env:Env}{outer:List Env}{L e:Addr}{cls:Value}{args:List Value}{Q:Unit→Shared→Prop}
  (hfr:A.frames=some (env::outer)) (hf:env.frame=some L) (hkb:base.StaysIn h) (hl:h.FunFrames base (env::outer)) (hx:Heap.MadeExcOf h s.heap e cls args)
  (hQ:∀ h' t,Heap.FlyingV base outer e cls (.ref t) h'→h'.TupAt t args→base.get? t=none→s.heap.UpToSlots h'→Q () { s with heap:=h' }):wpAny M A (leaving env (.ref e)) Q E s:=by
 obtain⟨t,he,htn,ht⟩:=hx.there
 have fresh:∀ b,h.get? b=none→base.get? b=none:=fun b hb=>by
  cases hq:base.get? b with
  | none=>rfl
  | some o'=>have:=hkb b o' hq;rw [hb] at this;cases this
 refine ay5 (a0:=.ref t) hfr (hl.of_keeps fun b o hb _=>⟨o,hx.keeps b o hb,rfl⟩) hf he (fun b o hb=>hx.keeps b o (hkb b o hb)) (fresh e hx.new) rfl rfl ⟨rfl,rfl⟩ fun h' hL=>?_
 obtain⟨k1,⟨_,_,k2⟩,k3,k4⟩:=hL
 exact hQ h' t ⟨k1,fresh e hx.new,k2,k3⟩ (Heap.TupAt.of_slots ⟨_,_,ht,rfl,rfl⟩ k4) (fresh t htn) k4
end
end PySem
namespace Fr
open PySem PySem.Spec L2
open PyProof.Rows hiding St
open Sem (wp)
def ExcAt (a C:Addr)(h:Heap):Prop:=∃ o,h.get? a=some o∧o.cls=.ref C∧∃ vs,o.data=.fields vs∧vs[2]?=some .none
def ExcO (a C:Addr):HO:=.ext (ExcAt a C)
end Fr
namespace Fr
open PySem PySem.Spec L2
open PyProof.Rows hiding St
section
variable {P:Program}{w:World}{H H':Hp}{h h':Heap}{a:Addr}{o:HO}
theorem bG9 (x:ObjOk P w H h a o):∃ ob,h.get? a=some ob:=by
 cases o with
 | lst xs=>obtain⟨_,_,_,_,e⟩:=x;exact⟨_,e⟩
 | tup xs=>obtain⟨_,_,_,ob,e,_⟩:=x;exact⟨_,e⟩
 | dK kvs=>obtain⟨_,_,_,_,o,_,_,e,_⟩:=x;exact⟨_,e⟩
 | dT kvs=>obtain⟨_,_,_,_,o,_,_,e,_⟩:=x;exact⟨_,e⟩
 | set S n=>obtain⟨o,_,_,_,e,_⟩:=x;exact⟨_,e⟩
 | ins C dx fs=>obtain⟨_,_,_,e,_⟩:=x;exact⟨_,e⟩
 | own y=>exact x
 | xd fs=>obtain⟨_,⟨_,_,_,e,_⟩,_⟩:=x;exact⟨_,e⟩
 | rng lo hi=>obtain⟨_,_,_,e⟩:=x;exact⟨_,e⟩
 | frz ob u=>obtain⟨e,_⟩:=x;exact⟨_,e⟩
 | tbl ps=>exact⟨_,x⟩
 | met f y=>exact⟨_,x⟩
 | ext φ=>exact x.2.1
theorem ay6 (x:HOk P w H h)(e:h.get? a=none):H a=none:=by
 cases q:H a with
 | none=>rfl
 | some u =>
  obtain⟨ob,z⟩:=bG9 (x a u q)
  rw [e] at z
  cases z
theorem aC0 (x:HOk P w H h)(k:∀ b u,H b≠none→h.get? b=some u→h'.get? b=some u):HOk P w H h':=fun a o e =>
 (x a o e).stay (fun b u hb q=>k b u (by rcases hb with rfl | hb <;> simp_all) q) (fun _ q=>q) fun _ _ q=>q
theorem bn2 (x:HOk P w H h)(n:H a=none)(new:ObjOk P w (upd H a o) h a o):HOk P w (upd H a o) h:=fun b u e=>by
 by_cases hb:b=a
 ·subst hb;rw [ab5] at e;cases e;exact new
 ·rw [ab2 hb] at e
  exact (x b u e).stay (fun c v _ q=>q) (fun c q=>by rw [ab2 (ad8 q n)];exact q) fun c xs q=>by rw [ab2 (ad8 q n)];exact q
end
theorem aN9 {h h' base base':Heap}:∀ {l:List Env},h.FunFrames base l→(∀ b∈frs l,base'.get? b=none)→(∀ b∈frs l,∀ o,h.get? b=some o→∃ o',h'.get? b=some o'∧o'.data=o.data)→h'.FunFrames base' l
 | [],_,_,_=>trivial
 | env::r,⟨hk,⟨L,o,hf,hn,ho,hd⟩,hr⟩,hb,hc=>by
  have hL:L∈frs (env::r):=by unfold frs;rw [filterMap_cons,hf];exact mem_cons_self
  have sub:∀ b∈frs r,b∈frs (env::r):=fun b hb=>by unfold frs;rw [filterMap_cons,hf];exact mem_cons_of_mem _ hb
  obtain⟨o',e,d⟩:=hc L hL o ho
  exact⟨hk,⟨L,o',hf,hb L hL,e,fun vs=>d ▸ hd vs⟩,aN9 hr (fun b z=>hb b (sub b z)) fun b z=>hc b (sub b z)⟩
structure Fly (base h:Heap) (H:Hp) (x C:Addr):Prop where
 ex:∃ oe vs T oT ts a0,h.get? x=some oe∧(oe.cls=.ref C∧vs[0]?=some a0∧vs[2]?=some .none)∧oe.data=.fields vs∧vs[1]?=some (.ref T)∧base.get? T=none∧T≠x∧h.get? T=some oT∧oT.data=.fields ts∧ts[3]?=some .none∧H T=none
 xn:base.get? x=none
 xh:H x=none
def CX1 (P:Program)(w:World):CXT:=fun outer H s E e s'=>∃ x C H',e=.ref x∧s'.os=s.os∧AllBare s'.gens∧Un (frs outer) [] H H' s.heap s'.heap∧HOk P w H' s'.heap∧Fly s.heap s'.heap H' x C∧E (.ref C) none H'
theorem aF3 {P:Program}{w:World}{X:Cx}:Passes (CX1 P w) X E0:=fun _ _ _ _ _ _ _ h=>by
 obtain⟨_,_,_,_,_,_,_,_,_,h⟩:=h
 exact h.elim
section
variable {X:Cx}{pins:List (Addr×Obj)}{σ:St}{H:Hp}{s:Shared}
theorem bQ5 {h'':Heap}(I:Inv X pins σ H s)(hex:X.ex=[])(kept:∀ b o,s.heap.get? b=some o→b ∉ frs X.stack→h''.get? b=some o)
  (slots:∀ b o,b∈frs X.stack→s.heap.get? b=some o→∃ sl,h''.get? b=some { o with slots:=sl }):Un X.fs [] X.H₀ H X.s₀.heap h'':=by
 have nx:∀ b:Addr,b ∉ X.ex:=fun b=>by rw [hex];simp
 have any:∀ b o,s.heap.get? b=some o→∃ sl,h''.get? b=some { o with slots:=sl }:=fun b o e=>by
  by_cases hb:b∈frs X.stack
  ·exact slots b o hb e
  ·exact⟨o.slots,kept b o e hb⟩
 refine⟨fun b o e n hb _=>?_,fun b o e n hb _=>?_,fun b o e n _=>I.base.free b o e n (nx b),fun b o e _=>?_,I.base.tups,I.base.frzs,I.base.tbls⟩
 ·refine kept b o (I.base.keep b o e n hb (nx b)) fun z=>?_
  rcases mem_cons.mp (I.stkSub b z) with z | z
  ·have:=lt_of_lt_of_le (Heap.lt_size e) I.ok.above
   rw [z] at this
   exact absurd this (lt_irrefl _)
  ·exact hb z
 ·obtain⟨sl,e1⟩:=I.base.slot b o e n hb (nx b)
  obtain⟨sl2,e2⟩:=any b _ e1
  exact⟨sl2,e2⟩
 ·obtain⟨o',e1⟩:=I.base.there b o e (nx b)
  obtain⟨sl,e2⟩:=any b o' e1
  exact⟨_,e2⟩
end
section
variable {P:Program}{w:World}{K:PySem.W.Frag}{mg:Str→Option Value}{base:Heap}{N:List Str}{qual:Str}{scope:Scope}{f:Addr}{cd:Value}{A:Around}{outer:List Env}{s:Shared}{H:Hp}{E:XK}
theorem bQ6 {pins:List (Addr×Obj)}{σ:St}{H2:Hp}{s2:Shared}{h':Heap}{e C:Addr}{us:List Value}(I:Inv (cxOf (CX1 P w) P w K mg base N qual scope f cd A outer s H E) pins σ H2 s2)
  (hm:Heap.MadeExcOf s2.heap h' e (.ref C) us) (q:E (.ref C) none H2):(cxOf (CX1 P w) P w K mg base N qual scope f cd A outer s H E).xe (.ref e) { s2 with heap:=h' }:=by
 have FF0:=I.stack
 have FF:s2.heap.FunFrames (hideAll s2.heap (frs (cxOf (CX1 P w) P w K mg base N qual scope f cd A outer s H E).stack)) (cxOf (CX1 P w) P w K mg base N qual scope f cd A outer s H E).stack :=
  aN9 FF0 (fun b hb=>hideAll_none _ hb) fun b _ o e=>⟨o,e,rfl⟩
 refine aB9 (base:=hideAll s2.heap (frs (cxOf (CX1 P w) P w K mg base N qual scope f cd A outer s H E).stack)) (h:=s2.heap) (outer:=outer) I.ok.frames rfl (fun b o hb=>of_hideAll _ hb) FF hm fun h'' t fl tup tn us'=>?_
 have kept:∀ b o,s2.heap.get? b=some o→b ∉ frs (cxOf (CX1 P w) P w K mg base N qual scope f cd A outer s H E).stack→h''.get? b=some o:=fun b o e n=>fl.1 b o (hideAll_get _ e n)
 have slots:∀ b o,b∈frs (cxOf (CX1 P w) P w K mg base N qual scope f cd A outer s H E).stack→s2.heap.get? b=some o→∃ sl,h''.get? b=some { o with slots:=sl }:=fun b o hb e=>by
  obtain⟨_,o',e',nf⟩:=FF.mem hb
  rw [e] at e'
  cases e'
  exact us' b o (hm.keeps b o e) nf
 have back:∀ b,s2.heap.get? b=none→s.heap.get? b=none:=fun b e=>by
  cases z:s.heap.get? b with
  | none=>rfl
  | some o =>
   obtain⟨o',e1⟩:=I.base.there b o z (fun y=>absurd (show b∈([]:List Addr) from y) (by simp))
   rw [e] at e1
   cases e1
 obtain⟨oe,vs,T,oT,ts,he,hc,hd,h1,hnT,hTe,hT,hdT,h3⟩:=fl.2.2.2
 have Tn:s2.heap.get? T=none:=by
  cases z:s2.heap.get? T with
  | none=>rfl
  | some o =>
   by_cases hb:T∈frs (cxOf (CX1 P w) P w K mg base N qual scope f cd A outer s H E).stack
   ·obtain⟨_,o',e',nf⟩:=FF.mem hb
    rw [z] at e'
    cases e'
    obtain⟨sl,e2⟩:=slots T o hb z
    rw [hT] at e2
    cases e2
    exact absurd hdT (nf ts)
   ·rw [hideAll_get _ z hb] at hnT
    cases hnT
 refine⟨e,C,H2,rfl,I.os,I.bare,bQ5 I rfl kept slots,aC0 I.hok fun b u hb e=>kept b u e fun z=>hb (I.stkFree b z),⟨⟨oe,vs,T,oT,ts,_,he,hc,hd,h1,back T Tn,hTe,hT,hdT,h3,ay6 I.hok Tn⟩,back e hm.new,ay6 I.hok hm.new⟩,q⟩
end
theorem bH0 {K:PySem.W.Frag}{h₀:Heap}{C:Addr}{bmB:List Value}{newId:String}(X:K.In h₀)(q:excIn K C bmB newId=true) :
  ∃ bm N nm q bs hdct sn sub ab col dd k0 k1 k2 k3 k5 mN,h₀.get? C=some (excClassObj nm q C N bs bm hdct sn sub ab col dd k0 k1 k2 k3 k5 newId)∧h₀.Ns N mN∧mN "__init__"=none∧OwnTail h₀ bmB bm:=by
 cases hl:K.lookup C with
 | none=>simp [excIn,hl] at q
 | some ob =>
  obtain⟨cl,dct,dat',slots⟩:=ob
  have hG:=X _ _ hl
  cases dat' with
  | cls info =>
   simp only [excIn,hl] at q
   split at q
   next dct' info' slots' hob =>
    cases hob
    split at q
    next C2 tl a0 a1 a2 a3 idn a5 hmro hslots =>
     simp only [Bool.and_eq_true,Bool.not_eq_true',beq_iff_eq] at q
     obtain⟨⟨⟨⟨⟨hC2,hid⟩,hdl⟩,htl⟩,hns⟩,hini⟩:=q
     cases info
     simp only at hmro hdl hns hini
     cases hC2
     cases hid
     cases hmro
     cases hdl
     have hsl:slots=#[a0,a1,a2,a3,some (.builtin newId),a5]:=Array.ext' (by simpa using hslots)
     cases hsl
     exact⟨_,_,_,_,_,_,_,_,_,_,_,_,_,_,_,_,_,hG,Heap.Ns.of_isNs (PySem.W.isNs_of_in X hns),PySem.W.nsMap_none_of_in X hns hini,PySem.W.tail_of_in X htl⟩
    next=>exact absurd q (by decide)
   next=>exact absurd q (by decide)
  | _=>simp [excIn,hl] at q
abbrev bmVE:List Value:=[.type "ValueError",.type "Exception",.type "BaseException",.type "object"]
def bQ7 (C:Addr)(E:XK)(ta:TA):TS:=fun _ σ H=>ta σ H fun vs H1=>vs.length≤sizeLine∧E (.ref C) none H1
section
variable {P:Program}{w:World}{K:PySem.W.Frag}{mg:Str→Option Value}{base:Heap}{N:List Str}{qual:Str}{scope:Scope}{f:Addr}{cd:Value}{A:Around}{outer:List Env}{s:Shared}{H:Hp}{E:XK}
 {x:Str} {C:Addr} {np cpos pos:Pos} {e₀:Expr} {rest:List Expr} {ta:TA}
theorem bv5 (hg:Gl (cxOf (CX1 P w) P w K mg base N qual scope f cd A outer s H E) x)(hm:mg x=some (.ref C))(q:excIn K C bmVE "ValueError.__new__"=true)(ha:PA (cxOf (CX1 P w) P w K mg base N qual scope f cd A outer s H E) (e₀::rest) ta)
  (he:starEach (e₀::rest) (cxOf (CX1 P w) P w K mg base N qual scope f cd A outer s H E).env=(false,eval e₀ (cxOf (CX1 P w) P w K mg base N qual scope f cd A outer s H E).env)::starEach rest (cxOf (CX1 P w) P w K mg base N qual scope f cd A outer s H E).env:=by rfl)
  (hpl:(backTo cpos (starEach rest (cxOf (CX1 P w) P w K mg base N qual scope f cd A outer s H E).env)).any (·.1)=false:=by rfl) (hdb:(x == ("__debug__" : Str))=false:=by decide) :
  PS (cxOf (CX1 P w) P w K mg base N qual scope f cd A outer s H E) (.Raise (some (.Call (.Name x np) (e₀::rest) [] cpos)) none pos) (bQ7 C E ta):=by
 intro pins s1 σ H1 D I h
 obtain⟨tl,N',nm,q',bs,hdct,sn,sub,ab,col,dd,k0,k1,k2,k3,k5,mN,hC,hN,hni,T⟩:=bH0 I.ok.mod.kin q
 refine wpAny_Raise_call_subT (C:=C) (nm:=nm) (q:=q') (N:=N') (bs:=bs) (bm:=tl) (hdct:=hdct) (sn:=sn) (sub:=sub) (ab:=ab) (col:=col) (dd:=dd) (k0:=k0) (k1:=k1) (k2:=k2) (k3:=k3) (k5:=k5)
  PySem.F.excBase_ValueError (mN:=mN) (T.hasType PySem.F.excBase_ValueError.hasBase) (I.ok.hd rfl) (by rw [he];show (false || (backTo cpos (starEach rest _)).any (·.1))=false;rw [hpl];rfl) hni (aF1 I hg hm ⟨rfl,?_⟩ hdb)
 have h2:=ha cpos pins s1 σ H1 _ I h
 rw [he] at h2 ⊢
 refine Calls.evalArgs_plain (wpAny_mono h2 (fun us s2 z=>?_) fun _ _ y=>y)
 obtain⟨vs,H2,I2,r,hz,hq⟩:=z
 exact⟨rfl,(by rw [← r.length];exact hz),I2.bk _ _ hC,hN.keeps I2.bk,T.keeps I2.bk,fun h' e hm=>bQ6 I2 hm hq⟩
end
def Own1 (P:Program)(w:World)(K:PySem.W.Frag)(mg:Str→Option Value)(base:Heap)(k:Nat)(x:Str)(ps:List Str)(sp:Sp):Prop :=
 ∃ (f:Addr) (fd:FuncData),FnOk P w K mg base (CX1 P w) k f fd ps sp∧mg x=some (.ref f)∧keepIn K (.ref f)=true∧Binds K fd ps []
theorem Own1.mono {P:Program}{w:World}{K:PySem.W.Frag}{mg:Str→Option Value}{base:Heap}{j k:Nat}{x:Str}{ps:List Str}{sp:Sp}(O:Own1 P w K mg base j x ps sp)(h:j≤k):Own1 P w K mg base k x ps sp:=by
 obtain⟨f,fd,a,b,c,d⟩:=O
 exact⟨f,fd,a.mono h,b,c,d⟩
theorem ok1 {P:Program}{w:World}{K:PySem.W.Frag}{mg:Str→Option Value}{base:Heap}{x qual:Str}{st:Stmt}{f:Addr}{fd:FuncData}{N ps:List Str}{k:Nat}{sp:Sp}(F:Fun K x qual st f fd)(S:FnScope N ps (aa2 st))(len:∀ vs H Q E,sp vs H Q E→vs.length=ps.length)
  (hbody:∀ (cdv:Value) (A:Around) (outer:List Env) (s:Shared) (H:Hp) (vs:List V) (Q:VK) (E:XK),Room k (A.deeper (envOfC qual (aa2 st) s.heap.objs.size f cdv))→sp vs H Q E →
   ∃ t,PSs (cxOf (CX1 P w) P w K mg base N qual (aa2 st) f cdv A outer s H E) (ab1 st) t∧t { nx:=fun _ H'=>Q .non H',rt:=Q } (start N vs) H):FnOk P w K mg base (CX1 P w) (k+1) f fd ps sp:=by
 obtain⟨oc,od,kV,doc,pm,an,cdv,ct,osl,rfl,lk,hcd⟩:=F.ex
 exact bY0 lk hcd S len fun A outer s H vs Q E hr hsp=>hbody cdv A outer s H vs Q E hr hsp
section
variable {P:Program}{w:World}{K:PySem.W.Frag}{mg:Str→Option Value}{base:Heap}{N:List Str}{qual:Str}{scope:Scope}{f:Addr}{cd:Value}{A:Around}{outer:List Env}{s:Shared}{H:Hp}{E:XK}
theorem aa6:Passes (CX1 P w) (cxOf (CX1 P w) P w K mg base N qual scope f cd A outer s H E) E:=by
 intro pins σ H1 s1 e s' I c
 obtain⟨x,C,H',rfl,os,bare,un,hok,fly,q⟩:=c
 obtain⟨oe,vs,T,oT,ts',a0,he,hc,hd,h1,hnT,hTe,hT,hdT,h3,hHT⟩:=fly.ex
 have FF:s'.heap.FunFrames (hideAll s'.heap (x::T::frs (cxOf (CX1 P w) P w K mg base N qual scope f cd A outer s H E).stack)) (cxOf (CX1 P w) P w K mg base N qual scope f cd A outer s H E).stack :=
  aN9 I.stack (fun b hb=>hideAll_none _ (mem_cons_of_mem _ (mem_cons_of_mem _ hb))) fun b hb o e=>by
   obtain⟨sl,e2⟩:=un.any e (I.stkFree b hb) (by simp)
   exact⟨_,e2,rfl⟩
 have fl:Heap.FlyingV (hideAll s'.heap (x::T::frs (cxOf (CX1 P w) P w K mg base N qual scope f cd A outer s H E).stack)) (cxOf (CX1 P w) P w K mg base N qual scope f cd A outer s H E).stack x (.ref C) a0 s'.heap :=
  ⟨fun b o hb=>of_hideAll _ hb,hideAll_none _ mem_cons_self,FF,oe,vs,T,oT,ts',he,hc,hd,h1,hideAll_none _ (mem_cons_of_mem _ mem_cons_self),hTe,hT,hdT,h3⟩
 have I':Inv (cxOf (CX1 P w) P w K mg base N qual scope f cd A outer s H E) pins σ H' s':=I.call' os un hok bare (fun _ z=>nomatch z)
 refine aI2 (outer:=outer) (L:=(cxOf (CX1 P w) P w K mg base N qual scope f cd A outer s H E).env.locals) I.ok.frames rfl fl fun h'' fl2 sm=>?_
 have nf:∀ b o,b∈frs (cxOf (CX1 P w) P w K mg base N qual scope f cd A outer s H E).stack→s'.heap.get? b=some o→∀ vs,o.data≠.fields vs:=fun b o hb e=>by
  obtain⟨_,o',e',nf⟩:=FF.mem hb
  rw [e] at e'
  cases e'
  exact nf
 have back1:∀ b,s1.heap.get? b=none→s.heap.get? b=none:=fun b e=>by
  cases z:s.heap.get? b with
  | none=>rfl
  | some o =>
   obtain⟨o',e1⟩:=I.base.there b o z (fun y=>absurd (show b∈([]:List Addr) from y) (by simp))
   rw [e] at e1
   cases e1
 have kept:∀ b o,s'.heap.get? b=some o→b≠x→b≠T→b ∉ frs (cxOf (CX1 P w) P w K mg base N qual scope f cd A outer s H E).stack→h''.get? b=some o:=fun b o e n1 n2 n3=>fl2.1 b o (hideAll_get _ e (by simp [n1,n2,n3]))
 have slots:∀ b o,b∈frs (cxOf (CX1 P w) P w K mg base N qual scope f cd A outer s H E).stack→s'.heap.get? b=some o→∃ sl,h''.get? b=some { o with slots:=sl }:=fun b o hb e=>sm b o e (nf b o hb e)
 have xs0:=back1 x fly.xn
 have Ts0:=back1 T hnT
 have nxT:∀ b o,s.heap.get? b=some o→b≠x∧b≠T:=fun b o e=>⟨(fun z=>by rw [z,xs0] at e;cases e),(fun z=>by rw [z,Ts0] at e;cases e)⟩
 have unO:Un (frs outer) [] H H' s.heap h'':=by
  have B:=I'.base
  have any:∀ b o,b≠x→b≠T→s'.heap.get? b=some o→∃ sl,h''.get? b=some { o with slots:=sl }:=fun b o n1 n2 e=>by
   by_cases hb:b∈frs (cxOf (CX1 P w) P w K mg base N qual scope f cd A outer s H E).stack
   ·exact slots b o hb e
   ·exact⟨o.slots,kept b o e n1 n2 hb⟩
  have nx:∀ b:Addr,b ∉ (cxOf (CX1 P w) P w K mg base N qual scope f cd A outer s H E).ex:=fun b z=>absurd (show b∈([]:List Addr) from z) (by simp)
  refine⟨fun b o e n hb hx=>?_,fun b o e n hb hx=>?_,fun b o e n hx=>B.free b o e n (nx b),fun b o e hx=>?_,B.tups,B.frzs,B.tbls⟩
  ·refine kept b o (B.keep b o e n hb (nx b)) (nxT b o e).1 (nxT b o e).2 fun z=>?_
   rcases mem_cons.mp (I'.stkSub b z) with z | z
   ·have:=lt_of_lt_of_le (Heap.lt_size e) I'.ok.above
    rw [z] at this
    exact absurd this (lt_irrefl _)
   ·exact hb z
  ·obtain⟨sl,e1⟩:=B.slot b o e n hb (nx b)
   obtain⟨sl2,e2⟩:=any b _ (nxT b o e).1 (nxT b o e).2 e1
   exact⟨sl2,e2⟩
  ·obtain⟨o',e1⟩:=B.there b o e (nx b)
   obtain⟨sl,e2⟩:=any b o' (nxT b o e).1 (nxT b o e).2 e1
   exact⟨_,e2⟩
 have hok2:HOk P w H' h'':=aC0 hok fun b u hb e=>kept b u e (fun z=>hb (by rw [z];exact fly.xh)) (fun z=>hb (by rw [z];exact hHT)) (fun z=>hb (I'.stkFree b z))
 obtain⟨oe2,vs2,T2,oT2,ts2,he2,hc2,hd2,h12,hnT2,hTe2,hT2,hdT2,h32⟩:=fl2.2.2.2
 have T2n:s'.heap.get? T2=none∨T2=T:=by
  by_cases e:T2=T
  ·exact .inr e
  ·refine .inl ?_
   cases z:s'.heap.get? T2 with
   | none=>rfl
   | some o =>
    by_cases hb:T2∈frs (cxOf (CX1 P w) P w K mg base N qual scope f cd A outer s H E).stack
    ·obtain⟨sl,e2⟩:=slots T2 o hb z
     rw [hT2] at e2
     cases e2
     exact absurd hdT2 (nf T2 o hb z ts2)
    ·rw [hideAll_get _ z (by simp [hTe2,e,hb])] at hnT2
     cases hnT2
 have backS:s.heap.get? T2=none∧H' T2=none:=by
  rcases T2n with z | z
  ·refine⟨?_,ay6 hok z⟩
   cases u:s.heap.get? T2 with
   | none=>rfl
   | some o =>
    obtain⟨o',e1⟩:=I'.base.there T2 o u (fun y=>absurd (show T2∈([]:List Addr) from y) (by simp))
    rw [z] at e1
    cases e1
  ·rw [z]
   exact⟨Ts0,hHT⟩
 exact⟨x,C,H',rfl,I'.os,bare,unO,hok2,⟨⟨oe2,vs2,T2,oT2,ts2,_,he2,hc2,hd2,h12,backS.1,hTe2,hT2,hdT2,h32,backS.2⟩,xs0,fly.xh⟩,q⟩
end
end Fr
namespace L2
open PySem PySem.Spec PyProof.Rows
section
variable {κ:Type}[DecidableEq κ]
def valV (kvs:List (κ×V))(k:κ):Option V:=(kvs.find? fun kv=>decide (kv.1=k)).map (·.2)
def putK (kvs:List (κ×V))(k:κ)(v:V):List (κ×V) :=
 if (kvs.any fun kv=>decide (kv.1=k))=true then kvs.map (fun kv=>if kv.1=k then (kv.1,v) else kv) else kvs++[(k,v)]
theorem ay7 {p:κ×V}{r:List (κ×V)}{k:κ}(e:p.1=k):valV (p::r) k=some p.2:=by simp [valV,find?_cons,e]
theorem ay8 {p:κ×V}{r:List (κ×V)}{k:κ}(e:¬ p.1=k):valV (p::r) k=valV r k:=by simp [valV,find?_cons,e]
theorem ay9 (k:κ):∀ kvs:List (κ×V),(kvs.any fun kv=>decide (kv.1=k))=(valV kvs k).isSome
 | []=>rfl
 | p::r=>by
  rw [any_cons]
  by_cases e:p.1=k
  ·simp only [ay7 e,decide_eq_true e,Bool.true_or,Option.isSome_some]
  ·rw [ay8 e,decide_eq_false e,Bool.false_or];exact ay9 k r
theorem aH8 (kvs:List (κ×V))(k:κ)(v:V):(putK kvs k v).length≤kvs.length+1:=by
 unfold putK
 split
 ·rw [length_map];omega
 ·rw [length_append,length_cons,length_nil];omega
theorem bv6 {kvs:List (κ×V)}{k:κ}(v:V)(h:valV kvs k=none):putK kvs k v=kvs++[(k,v)]:=by
 unfold putK
 rw [ay9,h]
 exact if_neg (by decide)
theorem RelO.isSome_eq {o:Option V}{u:Option Value}(r:RelO o u):o.isSome=u.isSome:=by
 cases o with
 | none=>cases u with
  | none=>rfl
  | some _=>exact (show False from r).elim
 | some _=>cases u with
  | none=>exact (show False from r).elim
  | some _=>rfl
theorem KV.val {kvs:List (κ×V)}{vs:List (κ×Value)}(r:KV kvs vs)(k:κ):RelO (valV kvs k) (valueAt vs k):=by
 unfold KV at r
 induction r with
 | nil=>exact True.intro
 | @cons p q ps qs h t ih =>
  obtain⟨h1,h2⟩:=h
  by_cases e:p.1=k
  ·have e':q.1=k:=h1.symm.trans e
   have b:valueAt (q::qs) k=some q.2:=by simp [valueAt,find?_cons,e']
   rw [ay7 e,b];exact h2
  ·have e':¬ q.1=k:=fun z=>e (h1.trans z)
   have b:valueAt (q::qs) k=valueAt qs k:=by simp [valueAt,find?_cons,e']
   rw [ay8 e,b];exact ih
theorem KV.any {kvs:List (κ×V)}{vs:List (κ×Value)}(r:KV kvs vs)(k:κ):(kvs.any fun kv=>decide (kv.1=k))=vs.any fun kv=>decide (kv.1=k):=by
 unfold KV at r
 induction r with
 | nil=>rfl
 | cons h t ih=>rw [any_cons,any_cons,ih,h.1]
theorem KV.repl {kvs:List (κ×V)}{vs:List (κ×Value)}(r:KV kvs vs)(k:κ){y:V}{u:Value}(ry:RelV y u) :
  KV (kvs.map fun kv=>if kv.1=k then (kv.1,y) else kv) (vs.map fun kv=>if kv.1=k then (kv.1,u) else kv):=by
 unfold KV at r ⊢
 induction r with
 | nil=>exact .nil
 | @cons p q ps qs h t ih =>
  rw [map_cons,map_cons]
  refine .cons ?_ ih
  obtain⟨h1,h2⟩:=h
  by_cases e:p.1=k
  ·rw [if_pos e,if_pos (h1.symm.trans e)];exact⟨h1,ry⟩
  ·rw [if_neg e,if_neg (fun z=>e (h1.trans z))];exact⟨h1,h2⟩
theorem KV.put {kvs:List (κ×V)}{vs:List (κ×Value)}(r:KV kvs vs)(k:κ){y:V}{u:Value}(ry:RelV y u):KV (putK kvs k y) (stored vs k u):=by
 unfold putK stored
 rw [r.any k]
 by_cases e:(vs.any fun kv=>decide (kv.1=k))=true
 ·rw [if_pos e,if_pos e];exact r.repl k ry
 ·rw [if_neg e,if_neg e];exact Paired.snoc r ⟨rfl,ry⟩
theorem KV.length {kvs:List (κ×V)}{vs:List (κ×Value)}(r:KV kvs vs):kvs.length=vs.length:=Paired.length r
end
theorem aK3 {P:Program}{w:World}{k:Key}{u:Value}(r:RelV (kV k) u):(ag2 P w).is k u=true:=by
 cases k with
 | inl i=>obtain⟨t,e⟩:=(show ∃ t,u=Value.int i t from r);subst e;exact ba5 P w i t
 | inr x=>obtain⟨t,e⟩:=(show ∃ t,u=Value.str x t from r);subst e;exact ba6 P w x t
theorem aR5 {P:Program}{w:World}:∀ {ks:List Key} {us:List Value},Vals (ks.map kV) us→ItemsAre (ag2 P w) ks us
 | [],_,r=>by rw [map_nil] at r;cases r;exact .nil
 | k::ks,_,r=>by
  rw [map_cons] at r
  cases r with
  | cons h t=>exact .cons (aK3 h) (aR5 t)
abbrev KT (H:Hp):List (List Key×V)→List (List Key×Addr×Value)→Prop:=Paired fun p q=>p.1=q.1∧H q.2.1=some (.tup (p.1.map kV))∧RelV p.2 q.2.2
theorem KT.val {H:Hp}{kvs:List (List Key×V)}{xs:List (List Key×Addr×Value)}(r:KT H kvs xs)(k:List Key):RelO (valV kvs k) ((atKey xs k).map (·.2)):=by
 induction r with
 | nil=>exact True.intro
 | @cons p q ps qs h t ih =>
  obtain⟨h1,_,h2⟩:=h
  by_cases e:p.1=k
  ·have e':q.1=k:=h1.symm.trans e
   have b:atKey (q::qs) k=some q.2:=by simp [atKey,find?_cons,e']
   rw [ay7 e,b];exact h2
  ·have e':¬ q.1=k:=fun z=>e (h1.trans z)
   have b:atKey (q::qs) k=atKey qs k:=by simp [atKey,find?_cons,e']
   rw [ay8 e,b];exact ih
theorem KT.repl {H:Hp}{kvs:List (List Key×V)}{xs:List (List Key×Addr×Value)}(r:KT H kvs xs)(k:List Key){y:V}{u:Value}(ry:RelV y u) :
  KT H (kvs.map fun kv=>if kv.1=k then (kv.1,y) else kv) (xs.map (putAt k u)):=by
 induction r with
 | nil=>exact .nil
 | @cons p q ps qs h t ih =>
  rw [map_cons,map_cons]
  refine .cons ?_ ih
  obtain⟨h1,h2,h3⟩:=h
  unfold putAt
  by_cases e:p.1=k
  ·rw [if_pos e,if_pos (h1.symm.trans e)];exact⟨h1,h2,ry⟩
  ·rw [if_neg e,if_neg (fun z=>e (h1.trans z))];exact⟨h1,h2,h3⟩
theorem KT.put {H:Hp}{kvs:List (List Key×V)}{xs:List (List Key×Addr×Value)}(r:KT H kvs xs)(k:List Key){b:Addr}{y:V}{u:Value}(hb:H b=some (.tup (k.map kV)))(ry:RelV y u) :
  KT H (putK kvs k y) (storedH xs k b u):=by
 have e:(kvs.any fun kv=>decide (kv.1=k))=(atKey xs k).isSome:=by
  rw [ay9,(r.val k).isSome_eq,Option.isSome_map]
 unfold putK storedH
 rw [e]
 by_cases q:(atKey xs k).isSome=true
 ·rw [if_pos q,if_pos q];exact r.repl k ry
 ·rw [if_neg q,if_neg q];exact Paired.snoc r ⟨rfl,hb,ry⟩
theorem KT.keeps {H H':Hp}{kvs:List (List Key×V)}{xs:List (List Key×Addr×Value)}(r:KT H kvs xs)(ht:∀ b ys,H b=some (.tup ys)→H' b=some (.tup ys)):KT H' kvs xs :=
 Paired.mapP r fun _ _ z=>⟨z.1,ht _ _ z.2.1,z.2.2⟩
section
variable {P:Program}{w:World}{H:Hp}{h:Heap}{a:Addr}
theorem bC4 {u:HO}(ok:HOk P w H h)(e:Rd H a u):ObjOk P w H h a u:=e.ok ok
theorem aK4 {kvs:List (Key×V)}(ok:HOk P w H h)(e:Rd H a (.dK kvs)):kvs.length≤sizeLine∧(a == sysModules)=false∧∃ vs,KV kvs vs∧h.DictOf (ag2 P w) a vs :=
 show ObjOk P w H h a (.dK kvs) from bC4 ok e
theorem bY6 {kvs:List (Key×V)}(ok:HOk P w H h)(e:H a=some (.dK kvs)):kvs.length≤sizeLine∧(a == sysModules)=false∧∃ vs,KV kvs vs∧h.DictOf (ag2 P w) a vs:=aK4 ok (.inl e)
theorem aC1 {ks:List Key}(ok:HOk P w H h)(e:H a=some (.tup (ks.map kV))):(tupleKind (ag2 P w)).is h ks a:=by
 obtain⟨_,its,r,o,h1,h2,n,h3⟩:=(show ObjOk P w H h a (.tup (ks.map kV)) from ok a _ e)
 exact⟨o,its.toArray,n,h1,h2,h3,by simpa using aR5 r⟩
theorem aK5 {kvs:List (List Key×V)}(ok:HOk P w H h)(e:Rd H a (.dT kvs)):kvs.length≤sizeLine∧(a == sysModules)=false ∧
  ∃ xs,KT H kvs xs∧h.DictOfH (tupleKind (ag2 P w)) a xs:=by
 obtain⟨z,y,xs,r,o,es,ep,h1,h2,h3,h4,h5⟩:=(show ObjOk P w H h a (.dT kvs) from bC4 ok e)
 refine⟨z,y,xs,r,o,es,ep,h1,h2,h3,h4,fun x hx=>?_,h5⟩
 have all:∀ {l:List (List Key×V)} {m:List (List Key×Addr×Value)},KT H l m→∀ x∈m,(tupleKind (ag2 P w)).is h x.1 x.2.1:=by
  intro l m q
  induction q with
  | nil=>intro x hx;exact nomatch hx
  | @cons p q ps qs hq t ih =>
   intro x hx
   rcases mem_cons.mp hx with e | hx
   ·subst e
    exact aC1 ok (by rw [← hq.1];exact hq.2.1)
   ·exact ih x hx
 exact all r x hx
theorem bY7 {kvs:List (List Key×V)}(ok:HOk P w H h)(e:H a=some (.dT kvs)):kvs.length≤sizeLine∧(a == sysModules)=false ∧
  ∃ xs,KT H kvs xs∧h.DictOfH (tupleKind (ag2 P w)) a xs:=aK5 ok (.inl e)
end
def DGet (H:Hp)(a:Addr)(y:V)(r:Option V):Prop :=
 (∃ kvs k,Rd H a (.dK kvs)∧y=kV k∧r=valV kvs k)∨∃ kvs k b,Rd H a (.dT kvs)∧y=.ref b∧H b=some (.tup (k.map kV))∧r=valV kvs k
def DPut (H:Hp)(a:Addr)(y v:V)(H':Hp):Prop :=
 (∃ kvs k,H a=some (.dK kvs)∧y=kV k∧kvs.length < sizeLine∧H'=upd H a (.dK (putK kvs k v))) ∨
 ∃ kvs k b,H a=some (.dT kvs)∧y=.ref b∧H b=some (.tup (k.map kV))∧kvs.length < sizeLine∧H'=upd H a (.dT (putK kvs k v))
theorem DGet.t {H:Hp}{a b:Addr}{kvs:List (List Key×V)}{k:List Key}(e:H a=some (.dT kvs))(eb:H b=some (.tup (k.map kV))):DGet H a (.ref b) (valV kvs k):=.inr ⟨kvs,k,b,.inl e,rfl,eb,rfl⟩
theorem DPut.t {H:Hp}{a b:Addr}{kvs:List (List Key×V)}{k:List Key}{v:V}(e:H a=some (.dT kvs))(eb:H b=some (.tup (k.map kV)))(hl:kvs.length < sizeLine) :
  DPut H a (.ref b) v (upd H a (.dT (putK kvs k v))):=.inr ⟨kvs,k,b,e,rfl,eb,hl,rfl⟩
section
variable {X:Cx}{pins:List (Addr×Obj)}{σ:St}{H:Hp}{s:Shared}{a:Addr}{y v:V}{u r:Value}{o:Option V}{A:Around}{E:Value→Shared→Prop}
theorem Inv.big (I:Inv X pins σ H s):sysModules < s.heap.objs.size:=by
 have h:mainGlobals < s.heap.objs.size:=(I.mod.glob.keeps I.bk).lt
 exact lt_trans (by decide) h
theorem bn3 {Q:Value→Shared→Prop}(hu:A.units+1 < cLine)(I:Inv X pins σ H s)(g:DGet H a y (some v))(ry:RelV y u)(h:∀ w' s',Inv X pins σ H s'→RelV v w'→Q w' s') :
  wpAny (model X.prog X.w) A (getItem (.ref a) u) Q E s:=by
 rcases g with ⟨kvs,k,e,ey,l⟩ | ⟨kvs,k,b,e,ey,eb,l⟩
 ·subst ey
  obtain⟨z,hd,vs,rel,dd⟩:=aK4 I.hok e
  obtain⟨w',hw,rw'⟩:=RelO.some_of (v:=v) (o:=valueAt vs k) (by rw [l];exact rel.val k)
  exact wpAny_getItem_of (aK3 ry) dd.mapOf hw (h w' _ (I.tok _) rw')
 ·subst ey
  cases (show u=Value.ref b from ry)
  obtain⟨z,hd,xs,rel,dd⟩:=aK5 I.hok e
  obtain⟨w',hw,rw'⟩:=RelO.some_of (v:=v) (o:=(atKey xs k).map (·.2)) (by rw [l];exact rel.val k)
  obtain⟨p,hp,hp2⟩:=Option.map_eq_some_iff.mp hw
  refine wpAny_getItem_heap (tupleKind_room_in1 hu) (aC1 I.hok eb) dd hp ?_
  rw [hp2]
  exact h w' _ (I.tok _) rw'
theorem d_in {Q:Value→Shared→Prop}(hu:A.units+1 < cLine)(I:Inv X pins σ H s)(g:DGet H a y o)(ry:RelV y u)(h:∀ s',Inv X pins σ H s'→Q (.bool o.isSome) s') :
  wpAny (model X.prog X.w) A (compareOp .In u (.ref a)) Q E s:=by
 rcases g with ⟨kvs,k,e,ey,l⟩ | ⟨kvs,k,b,e,ey,eb,l⟩
 ·subst ey
  obtain⟨z,hd,vs,rel,dd⟩:=aK4 I.hok e
  refine wpAny_in_of (aK3 ry) hd dd.mapOf ?_
  rw [← (rel.val k).isSome_eq,← l]
  exact h _ (I.tok _)
 ·subst ey
  cases (show u=Value.ref b from ry)
  obtain⟨z,hd,xs,rel,dd⟩:=aK5 I.hok e
  refine wpAny_in_heap (tupleKind_room_in1 hu) (aC1 I.hok eb) hd dd ?_
  have q:=(rel.val k).isSome_eq
  rw [Option.isSome_map] at q
  rw [← q,← l]
  exact h _ (I.tok _)
theorem bH1 {Q:Value→Shared→Prop}(hu:A.units+1 < cLine)(I:Inv X pins σ H s)(g:DGet H a y o)(ry:RelV y u)(h:∀ s',Inv X pins σ H s'→Q (.bool (!o.isSome)) s') :
  wpAny (model X.prog X.w) A (compareOp .NotIn u (.ref a)) Q E s:=by
 rcases g with ⟨kvs,k,e,ey,l⟩ | ⟨kvs,k,b,e,ey,eb,l⟩
 ·subst ey
  obtain⟨z,hd,vs,rel,dd⟩:=aK4 I.hok e
  refine wpAny_notIn_of (aK3 ry) hd dd.mapOf ?_
  rw [← (rel.val k).isSome_eq,← l]
  exact h _ (I.tok _)
 ·subst ey
  cases (show u=Value.ref b from ry)
  obtain⟨z,hd,xs,rel,dd⟩:=aK5 I.hok e
  refine wpAny_notIn_heap (tupleKind_room_in1 hu) (aC1 I.hok eb) hd dd ?_
  have q:=(rel.val k).isSome_eq
  rw [Option.isSome_map] at q
  rw [← q,← l]
  exact h _ (I.tok _)
theorem bd0 {h':Heap}{t':Nat}{ob:HO}(I:Inv X pins σ H s)(mu:Mut (H a))(hs:Heap.SameBut a s.heap h')(he:∃ q,h'.get? a=some q)(new:ObjOk X.prog X.w (upd H a ob) h' a ob) :
  Inv X pins σ (upd H a ob) { s with heap:=h',toks:=t' } :=
 I.write (x:=a) (e:=a) mu (.inl rfl) (fun b q hb z=>(hs.2 b hb).trans z) he new
theorem bQ8 {P:Program}{w:World}{H':Hp}{h':Heap}{kvs:List (Key×V)}{vs:List (Key×Value)}(z:kvs.length≤sizeLine)(hd:(a == sysModules)=false)(rel:KV kvs vs)(dd:h'.DictOf (ag2 P w) a vs) :
  ObjOk P w H' h' a (.dK kvs):=⟨z,hd,vs,rel,dd⟩
theorem bn4 {H':Hp}{Q:Unit→Shared→Prop}(hu:A.units+1 < cLine)(I:Inv X pins σ H s)(g:DPut H a y v H')(ry:RelV y u)(rv:RelV v r)(h:∀ s',Inv X pins σ H' s'→Q () s') :
  wpAny (model X.prog X.w) A (setItem (.ref a) u r) Q E s:=by
 rcases g with ⟨kvs,k,e,ey,l,eH⟩ | ⟨kvs,k,b,e,ey,eb,l,eH⟩
 ·subst ey eH
  obtain⟨z,hd,vs,rel,dd⟩:=bY6 I.hok e
  have hz:vs.length≤sizeLine:=by rw [← rel.length];exact z
  have hl:(putK kvs k v).length≤sizeLine:=by have:=aH8 kvs k v;omega
  refine wpAny_setItem_pairs (hsz:=hz) (aK3 ry) dd fun h' dd' hs=>h _ ?_
  have he:∃ q,h'.get? a=some q:=let ⟨q,_,_,hq,_⟩:=dd';⟨q,hq⟩
  exact bd0 I (by rw [e];exact True.intro) hs he (bQ8 hl hd (rel.put k rv) dd')
 ·subst ey eH
  cases (show u=Value.ref b from ry)
  obtain⟨z,hd,xs,rel,dd⟩:=bY7 I.hok e
  have hz:xs.length≤sizeLine:=by rw [← Paired.length rel];exact z
  have hl:(putK kvs k v).length≤sizeLine:=by have:=aH8 kvs k v;omega
  refine wpAny_setItem_heap (hsz:=hz) (tupleKind_room_in1 hu) (aC1 I.hok eb) dd fun h' dd' hs=>h _ ?_
  obtain⟨q,es,ep,hq,h2,h3,h4,_,h5⟩:=dd'
  refine bd0 I (by rw [e];exact True.intro) hs ⟨q,hq⟩ ⟨hl,hd,_,(rel.put k eb rv).keeps fun c ys ec=>?_,q,es,ep,hq,h2,h3,h4,h5⟩
  rw [ab2 (bW3 ec e (fun z=>nomatch z))]
  exact ec
end
def NoSl (i:Expr):Prop:=∀ ov iv,subscripted i false ov iv=operate [ov,iv] (getItem ov iv)
theorem bH2 {prog:Program}{w:World}{A:Around}{E:Value→Shared→Prop}{s:Shared}{env:Env}{value slice:Expr}{pos:Pos}{T id:String}{Q:Value→Shared→Prop}
  (hl:typeLookup (.type T) "__getitem__"=pure (some (.builtin id))) (hs:NoSl slice)
  (h:wpAny (model prog w) A (eval value env) (fun o s₁=>wpAny (model prog w) A (eval slice env) (fun i s₂=>s₂.TypeIs o T∧wpAny (model prog w) A (getItem o i) Q E s₂) E s₁) E s) :
  wpAny (model prog w) A (eval (.Subscript value slice pos) env) Q E s:=by
 refine Subscript_ (wpAny_mono h (fun o s₁ h₁=>wpAny_mono h₁ (fun i s₂ h₂=>?_) fun _ _ x=>x) fun _ _ x=>x)
 obtain⟨hT,h₂⟩:=h₂
 unfold subscriptTail
 refine wpAny_bind ?_
 rw [getitemInPython_of_ne hT.not_modules]
 refine wpAny_bind (wpAny_specialOf hT hl ?_)
 have fin:wpAny (model prog w) A (subscripted slice false o i) (fun r s₃=>wpAny (model prog w) A (letTemporaryGo value o r >>= fun _=>pure r) Q E s₃) E s₂:=by
  rw [hs o i]
  exact wpAny_operating (wpAny_mono h₂ (fun r s₃ h₃=>wpAny_bind (wpAny_letTemporaryGo (wpAny_pure h₃))) fun _ _ x=>x)
 first
  | exact wpAny_pure (wpAny_bind fin)
  | exact wpAny_bind (wpAny_pure (wpAny_bind fin))
  | exact wpAny_bind fin
theorem bb1 {X:Cx}{pins:List (Addr×Obj)}{σ:St}{H:Hp}{s:Shared}{a:Addr}{y:V}{o:Option V}(I:Inv X pins σ H s)(g:DGet H a y o):s.TypeIs (.ref a) "dict":=by
 rcases g with ⟨kvs,k,e,_,_⟩ | ⟨kvs,k,b,e,_,_,_⟩
 ·obtain⟨_,_,vs,_,dd⟩:=aK4 I.hok e
  exact dd.typeIs
 ·obtain⟨_,_,xs,_,dd⟩:=aK5 I.hok e
  exact dd.typeIs
def bY8 (td ty:TE):TE:=fun σ H Q=>td σ H fun x H1=>ty σ H1 fun y H2=>∃ a v,x=.ref a∧DGet H2 a y (some v)∧Q v H2
def tDIn (ty td:TE):TE:=fun σ H Q=>ty σ H fun y H1=>td σ H1 fun x H2=>∃ a o,x=.ref a∧DGet H2 a y o∧Q (.bl o.isSome) H2
def bH3 (ty td:TE):TE:=fun σ H Q=>ty σ H fun y H1=>td σ H1 fun x H2=>∃ a o,x=.ref a∧DGet H2 a y o∧Q (.bl (!o.isSome)) H2
def bY9 (td ty tv:TE):TS:=fun D σ H=>tv σ H fun v H1=>td σ H1 fun x H2=>ty σ H2 fun y H3=>∃ a H4,x=.ref a∧DPut H3 a y v H4∧D.nx σ H4
section
variable {X:Cx}{o i e value:Expr}{pos pos' tpos:Pos}{td ty tv:TE}
theorem bH4 (hu:X.A.units+1 < cLine)(ho:PE X o td)(hi:PE X i ty)(hs:NoSl i):PE X (.Subscript o i pos) (bY8 td ty):=by
 intro pins s σ H Q I h
 refine bH2 PySem.F.slot_dict_getitem.lookup hs (thn (ho pins s σ H _ I h) fun u s1 ⟨x,H1,I1,rx,q1⟩=>thn (hi pins s1 σ H1 _ I1 q1) fun iv s2 ⟨y,H2,I2,ry,a,v,ex,g,q2⟩=>?_)
 subst ex
 obtain rfl:u=Value.ref a:=rx
 exact⟨bb1 I2 g,bn3 hu I2 g ry fun w' s3 I3 rw'=>⟨v,H2,I3,rw',q2⟩⟩
theorem bQ9 (hu:X.A.units+1 < cLine)(hi:PE X i ty)(ho:PE X o td):PC X .In i o (tDIn ty td):=by
 intro pins s σ H Q I h
 refine thn (hi pins s σ H _ I h) fun iv s1 ⟨y,H1,I1,ry,q1⟩=>thn (ho pins s1 σ H1 _ I1 q1) fun u s2 ⟨x,H2,I2,rx,a,ov,ex,g,q2⟩=>?_
 subst ex
 obtain rfl:u=Value.ref a:=rx
 exact d_in hu I2 g ry fun s3 I3=>⟨.bl ov.isSome,H2,I3,rfl,q2⟩
theorem bn5 (hu:X.A.units+1 < cLine)(hi:PE X i ty)(ho:PE X o td):PC X .NotIn i o (bH3 ty td):=by
 intro pins s σ H Q I h
 refine thn (hi pins s σ H _ I h) fun iv s1 ⟨y,H1,I1,ry,q1⟩=>thn (ho pins s1 σ H1 _ I1 q1) fun u s2 ⟨x,H2,I2,rx,a,ov,ex,g,q2⟩=>?_
 subst ex
 obtain rfl:u=Value.ref a:=rx
 exact bH1 hu I2 g ry fun s3 I3=>⟨.bl (!ov.isSome),H2,I3,rfl,q2⟩
theorem bH5 (hu:X.A.units+1 < cLine)(ho:PE X o td)(hi:PE X i ty)(hv:PE X value tv)(hs:swapsWith value (some (.Subscript o i pos')) pos.line X.env=pure false) :
  PS X (.Assign [.Subscript o i pos'] value pos) (bY9 td ty tv):=by
 intro pins s σ H D I h
 refine wpAny_Assign_Subscript (thn (hv pins s σ H _ I h) fun r s1 ⟨v,H1,I1,rv,q1⟩=>thn (ho pins s1 σ H1 _ I1 q1) fun u s2 ⟨x,H2,I2,rx,q2⟩=>thn (hi pins s2 σ H2 _ I2 q2) fun iv s3 ⟨y,H3,I3,ry,a,H4,ex,g,q3⟩=>?_) hs
 subst ex
 obtain rfl:u=Value.ref a:=rx
 exact bn4 hu I3 g ry rv fun s4 I4=>⟨σ,H4,I4,q3⟩
end
theorem bv7 {P:Program}{w:World}{H:Hp}(h:Heap)(hb:sysModules < h.objs.size):ObjOk P w H (h.push { cls:=.type "dict",data:=.dict #[] }) h.objs.size (.dT []) :=
 ⟨zero_le _,beq_eq_false_iff_ne.mpr (Ne.symm (ne_of_lt hb)),[],.nil,_,#[],0,Heap.get?_push_size _ rfl,⟨rfl,rfl,rfl⟩,rfl,rfl,List.nodup_nil⟩
def bR0:TE:=fun _ H Q=>∀ p,H p=none→Q (.ref p) (upd H p (.dT []))
section
variable {X:Cx}{pos:Pos}
theorem bv8:PE X (.Dict [] [] pos) bR0:=fun pins s σ H Q I h =>
 wpAny_Dict_empty ⟨.ref s.heap.objs.size,_,I.laid (a:=s.heap.objs.size) (o:=.dT []) (t':=s.toks) (fun _ _ q=>Heap.get?_push_of_some _ q) (le_refl _) (bv7 s.heap I.big),rfl,h _ (I.hok.fresh (le_refl _))⟩
end
end L2
set_option exponentiation.threshold 2000
universe u1 u2 u3 u4
namespace Fr
open PySem PySem.Spec L2
def TabAt (P:Addr)(h:Heap):Prop:=∃ ps:Array Value,h.get? P=some { cls:=.none,data:=.fields ps }∧TriplesOk ps.toList
def TabP (P:Addr):HO:=.ext (TabAt P)
end Fr
namespace L3
open PySem PySem.Spec L2
theorem ex4 {α:Sort u1}{β:Sort u2}{γ:Sort u3}{ε:Sort u4}{A B C D:α→β→γ→ε→Prop}{G:Prop}(h:∃ a b c d,A a b c d∧B a b c d∧C a b c d∧D a b c d)(k:∀ a b c d,A a b c d→B a b c d→C a b c d→D a b c d→G):G:=by
 obtain⟨a,b,c,d,h1,h2,h3,h4⟩:=h
 exact k a b c d h1 h2 h3 h4
inductive D where
 | non | bl (b:Bool) | int (i:Int) | str (x:Str) | ty (n:String) | adr (a:Addr)
 | tup (xs:List D) | lst (xs:List D)
 | dT (kvs:List (List Key×D)) | dK (kvs:List (Key×D))
 | obj (C:Addr) (fs:List (Str×D))
 | scr (ns:List Int)
 | exc (C:Addr)
instance:Inhabited D:=⟨.non⟩
theorem m1I {xs:List D}{P:Int→Prop}(h:match xs with
 | [.int j]=>P j
 | _=>False):∃ j,xs=[.int j]∧P j:=by
 split at h
 ·exact⟨_,rfl,h⟩
 ·exact h.elim
theorem m2I {xs:List D}{P:Int→Int→Prop}(h:match xs with
 | [.int i,.int j]=>P i j
 | _=>False):∃ i j,xs=[.int i,.int j]∧P i j:=by
 split at h
 ·exact⟨_,_,rfl,h⟩
 ·exact h.elim
theorem m1L {xs:List D}{P:List D→Prop}(h:match xs with
 | [.lst j]=>P j
 | _=>False):∃ j,xs=[.lst j]∧P j:=by
 split at h
 ·exact⟨_,rfl,h⟩
 ·exact h.elim
theorem m2L {xs:List D}{P:List D→List D→Prop}(h:match xs with
 | [.lst i,.lst j]=>P i j
 | _=>False):∃ i j,xs=[.lst i,.lst j]∧P i j:=by
 split at h
 ·exact⟨_,_,rfl,h⟩
 ·exact h.elim
mutual
inductive Rp (K:PySem.W.Frag) (F:Hp):V→D→Prop
 | non:Rp K F .non .non
 | bl (b:Bool):Rp K F (.bl b) (.bl b)
 | int (i:Int):Rp K F (.int i) (.int i)
 | str (x:Str):Rp K F (.str x) (.str x)
 | ty (n:String):Rp K F (.ty n) (.ty n)
 | adr (a:Addr):Rp K F (.ref a) (.adr a)
 | tup {a:Addr} {xs:List V} {ds:List D}:SqT K F a xs→Rps K F xs ds→Rp K F (.ref a) (.tup ds)
 | scr {a:Addr} {ns:List Int}:SqL K F a (ns.map V.int)→Rp K F (.ref a) (.scr ns)
 | lst {a:Addr} {xs:List V} {ds:List D}:F a=some (.lst xs)→Rps K F xs ds→Rp K F (.ref a) (.lst ds)
 | dT {a:Addr} {kvs:List (List Key×V)} {dvs:List (List Key×D)}:F a=some (.dT kvs)→kvs.map (·.1)=dvs.map (·.1)→Rps K F (kvs.map (·.2)) (dvs.map (·.2))→Rp K F (.ref a) (.dT dvs)
 | dK {a:Addr} {kvs:List (Key×V)} {dvs:List (Key×D)}:F a=some (.dK kvs)→kvs.map (·.1)=dvs.map (·.1)→Rps K F (kvs.map (·.2)) (dvs.map (·.2))→Rp K F (.ref a) (.dK dvs)
 | exc {a C:Addr}:F a=some (Fr.ExcO a C)→Rp K F (.ref a) (.exc C)
 | obj {a C dx:Addr} {fs:List (Str×V)} {dfs:List (Str×D)}:F a=some (.ins C dx fs)→fs.map (·.1)=dfs.map (·.1)→Rps K F (fs.map (·.2)) (dfs.map (·.2))→Rp K F (.ref a) (.obj C dfs)
inductive Rps (K:PySem.W.Frag) (F:Hp):List V→List D→Prop
 | nil:Rps K F [] []
 | cons {x:V} {d:D} {xs:List V} {ds:List D}:Rp K F x d→Rps K F xs ds→Rps K F (x::xs) (d::ds)
end
section
variable {K:PySem.W.Frag}{F F':Hp}
mutual
theorem Rp.same (s:Same F F'):∀ {v:V} {d:D},Rp K F v d→Rp K F' v d
 | _,_,.non=>.non
 | _,_,.bl b=>.bl b
 | _,_,.int i=>.int i
 | _,_,.str x=>.str x
 | _,_,.ty n=>.ty n
 | _,_,.adr a=>.adr a
 | _,_,.tup h r=>.tup (Fr.ak6 s h) (Rps.same s r)
 | _,_,.lst h r=>.lst (s _ _ h) (Rps.same s r)
 | _,_,.scr h=>.scr (s.seq h)
 | _,_,.dT h e r=>.dT (s _ _ h) e (Rps.same s r)
 | _,_,.dK h e r=>.dK (s _ _ h) e (Rps.same s r)
 | _,_,.obj h e r=>.obj (s _ _ h) e (Rps.same s r)
 | _,_,.exc h=>.exc (s _ _ h)
theorem Rps.same (s:Same F F'):∀ {vs:List V} {ds:List D},Rps K F vs ds→Rps K F' vs ds
 | _,_,.nil=>.nil
 | _,_,.cons h r=>.cons (Rp.same s h) (Rps.same s r)
end
theorem Rp.inv_int {v:V}{i:Int}(h:Rp K F v (.int i)):v=.int i:=by cases h;rfl
theorem Rp.inv_bl {v:V}{b:Bool}(h:Rp K F v (.bl b)):v=.bl b:=by cases h;rfl
theorem Rp.inv_str {v:V}{x:Str}(h:Rp K F v (.str x)):v=.str x:=by cases h;rfl
theorem Rp.inv_non {v:V}(h:Rp K F v .non):v=.non:=by cases h;rfl
theorem Rp.inv_ty {v:V}{n:String}(h:Rp K F v (.ty n)):v=.ty n:=by cases h;rfl
theorem Rp.inv_tup {v:V}{ds:List D}(h:Rp K F v (.tup ds)):∃ a xs,v=.ref a∧SqT K F a xs∧Rps K F xs ds:=by
 cases h with
 | tup h r=>exact⟨_,_,rfl,h,r⟩
theorem Rp.inv_lst {v:V}{ds:List D}(h:Rp K F v (.lst ds)):∃ a xs,v=.ref a∧F a=some (.lst xs)∧Rps K F xs ds:=by
 cases h with
 | lst h r=>exact⟨_,_,rfl,h,r⟩
theorem Rp.inv_scr {v:V}{ns:List Int}(h:Rp K F v (.scr ns)):∃ a,v=.ref a∧SqL K F a (ns.map V.int):=by
 cases h with
 | scr h=>exact⟨_,rfl,h⟩
theorem Rps.inv_nil {vs:List V}(h:Rps K F vs []):vs=[]:=by cases h;rfl
theorem Rps.inv_cons {vs:List V}{d:D}{ds:List D}(h:Rps K F vs (d::ds)):∃ v us,vs=v::us∧Rp K F v d∧Rps K F us ds:=by
 cases h with
 | cons h r=>exact⟨_,_,rfl,h,r⟩
theorem Rps.inv1 {vs:List V}{d:D}(h:Rps K F vs [d]):∃ v,vs=[v]∧Rp K F v d:=by
 obtain⟨v,us,rfl,h1,h2⟩:=h.inv_cons
 exact⟨v,by rw [h2.inv_nil],h1⟩
theorem Rps.inv2 {vs:List V}{d e:D}(h:Rps K F vs [d,e]):∃ v u,vs=[v,u]∧Rp K F v d∧Rp K F u e:=by
 obtain⟨v,us,rfl,h1,h2⟩:=h.inv_cons
 obtain⟨u,rfl,h3⟩:=h2.inv1
 exact⟨v,u,rfl,h1,h3⟩
theorem Rps.len:∀ {vs:List V} {ds:List D},Rps K F vs ds→vs.length=ds.length
 | _,_,.nil=>rfl
 | _,_,.cons _ r=>by simp [Rps.len r]
theorem Rps.append:∀ {vs us:List V} {ds es:List D},Rps K F vs ds→Rps K F us es→Rps K F (vs++us) (ds++es)
 | _,_,_,_,.nil,s=>s
 | _,_,_,_,.cons h r,s=>.cons h (Rps.append r s)
theorem Rps.one {v:V}{d:D}(h:Rp K F v d):Rps K F [v] [d]:=.cons h .nil
theorem Rps.at:∀ {vs:List V} {ds:List D} {i:Nat} {d:D},Rps K F vs ds→ds[i]?=some d→∃ v,vs[i]?=some v∧Rp K F v d
 | _,_,_,_,.nil,e=>by simp at e
 | _,_,0,_,.cons h _,e=>by simp at e;subst e;exact⟨_,rfl,h⟩
 | _,_,i+1,d,.cons _ r,e=>by
  obtain⟨v,h1,h2⟩:=Rps.at (i:=i) (d:=d) r (by simpa using e)
  exact⟨v,by simpa using h1,h2⟩
theorem Rps.at':∀ {vs:List V} {ds:List D} {i:Nat} {v:V},Rps K F vs ds→vs[i]?=some v→∃ d,ds[i]?=some d∧Rp K F v d
 | _,_,_,_,.nil,e=>by simp at e
 | _,_,0,_,.cons h _,e=>by simp at e;subst e;exact⟨_,rfl,h⟩
 | _,_,i+1,d,.cons _ r,e=>by
  obtain⟨v,h1,h2⟩:=Rps.at' (i:=i) (v:=d) r (by simpa using e)
  exact⟨v,by simpa using h1,h2⟩
theorem Rps.set {v:V}{d:D}(h:Rp K F v d):∀ {vs:List V} {ds:List D} (i:Nat),Rps K F vs ds→Rps K F (vs.set i v) (ds.set i d)
 | _,_,_,.nil=>.nil
 | _,_,0,.cons _ r=>.cons h r
 | _,_,i+1,.cons q r=>.cons q (Rps.set h i r)
theorem Rps.take:∀ {vs:List V} {ds:List D} (n:Nat),Rps K F vs ds→Rps K F (vs.take n) (ds.take n)
 | _,_,0,_=>.nil
 | _,_,_+1,.nil=>.nil
 | _,_,n+1,.cons r t=>.cons r (Rps.take n t)
theorem Rps.drop:∀ {vs:List V} {ds:List D} (n:Nat),Rps K F vs ds→Rps K F (vs.drop n) (ds.drop n)
 | _,_,0,r=>r
 | _,_,_+1,.nil=>.nil
 | _,_,n+1,.cons _ t=>Rps.drop n t
theorem Rps.reverse:∀ {vs:List V} {ds:List D},Rps K F vs ds→Rps K F vs.reverse ds.reverse
 | _,_,.nil=>.nil
 | _,_,.cons h r=>by
  rw [reverse_cons,reverse_cons]
  exact (Rps.reverse r).append (.one h)
theorem Rps.ints:∀ ns:List Int,Rps K F (ns.map V.int) (ns.map D.int)
 | []=>.nil
 | n::ns=>.cons (.int n) (Rps.ints ns)
end
inductive Ob where
 | lst (xs:List D) | dT (kvs:List (List Key×D)) | dK (kvs:List (Key×D)) | ins (C:Addr) (fs:List (Str×D)) | pu
inductive Sl where
 | un | d (x:D) | own (o:Ob) | bor (o:Ob)
inductive Rv where
 | d (x:D) | own (o:Ob)
def Ob.frz:Ob→Option D
 | .lst xs=>some (.lst xs)
 | .dT kvs=>some (.dT kvs)
 | .dK kvs=>some (.dK kvs)
 | .ins C fs=>some (.obj C fs)
 | .pu=>none
def Rv.frz:Rv→Option D
 | .d x=>some x
 | .own o=>o.frz
def Rv.sl:Rv→Sl
 | .d x=>.d x
 | .own o=>.own o
def OwnOk (K:PySem.W.Frag)(F H:Hp)(a:Addr):Ob→Prop
 | .lst xs=>∃ vs,H a=some (.lst vs)∧Rps K F vs xs
 | .dT dvs=>∃ kvs:List (List Key×V),H a=some (.dT kvs)∧kvs.map (·.1)=dvs.map (·.1)∧Rps K F (kvs.map (·.2)) (dvs.map (·.2))
 | .dK dvs=>∃ kvs:List (Key×V),H a=some (.dK kvs)∧kvs.map (·.1)=dvs.map (·.1)∧Rps K F (kvs.map (·.2)) (dvs.map (·.2))
 | .ins C dfs=>∃ (dx:Addr) (fs:List (Str×V)),H a=some (.ins C dx fs)∧fs.map (·.1)=dfs.map (·.1)∧Rps K F (fs.map (·.2)) (dfs.map (·.2))
 | .pu=>∃ x y:Int,H a=some (.lst [.int x,.int y])∧0≤x
theorem OwnOk.there {K:PySem.W.Frag}{F H:Hp}{a:Addr}{o:Ob}(h:OwnOk K F H a o):∃ ho,H a=some ho:=by
 cases o with
 | lst xs=>obtain⟨vs,e,_⟩:=h;exact⟨_,e⟩
 | dT kvs=>obtain⟨vs,e,_⟩:=h;exact⟨_,e⟩
 | dK kvs=>obtain⟨vs,e,_⟩:=h;exact⟨_,e⟩
 | ins C fs=>obtain⟨dx,vs,e,_⟩:=h;exact⟨_,e⟩
 | pu=>obtain⟨x,y,e,_⟩:=h;exact⟨_,e⟩
theorem OwnOk.same {K:PySem.W.Frag}{F F' H H':Hp}{a:Addr}{o:Ob}(h:OwnOk K F H a o)(s:Same F F')(e:H' a=H a):OwnOk K F' H' a o:=by
 cases o with
 | lst xs=>obtain⟨vs,e1,r⟩:=h;exact⟨vs,e.trans e1,r.same s⟩
 | dT kvs=>obtain⟨vs,e1,k,r⟩:=h;exact⟨vs,e.trans e1,k,r.same s⟩
 | dK kvs=>obtain⟨vs,e1,k,r⟩:=h;exact⟨vs,e.trans e1,k,r.same s⟩
 | ins C fs=>obtain⟨dx,vs,e1,k,r⟩:=h;exact⟨dx,vs,e.trans e1,k,r.same s⟩
 | pu=>obtain⟨x,y,e1,p⟩:=h;exact⟨x,y,e.trans e1,p⟩
theorem OwnOk.frz {K:PySem.W.Frag}{F H:Hp}{a:Addr}{o:Ob}{x:D}(h:OwnOk K F H a o)(e:o.frz=some x)(n:F a=none):∃ ho,H a=some ho∧Rp K (upd F a ho) (.ref a) x:=by
 have s:∀ ho,Same F (upd F a ho):=fun ho=>Fr.Same.new n
 cases o with
 | lst xs=>obtain⟨vs,e1,r⟩:=h;cases e;exact⟨_,e1,.lst ab5 (r.same (s _))⟩
 | dT kvs=>obtain⟨vs,e1,k,r⟩:=h;cases e;exact⟨_,e1,.dT ab5 k (r.same (s _))⟩
 | dK kvs=>obtain⟨vs,e1,k,r⟩:=h;cases e;exact⟨_,e1,.dK ab5 k (r.same (s _))⟩
 | ins C fs=>obtain⟨dx,vs,e1,k,r⟩:=h;cases e;exact⟨_,e1,.obj ab5 k (r.same (s _))⟩
 | pu=>cases e
def SlOk (K:PySem.W.Frag)(H0:Hp)(B:Option Addr)(F H:Hp)(sv:Option (Option V)):Sl→Prop
 | .un=>True
 | .d x=>∃ v,sv=some (some v)∧Rp K F v x
 | .own o=>∃ a,sv=some (some (.ref a))∧F a=none∧H0 a=none∧OwnOk K F H a o
 | .bor o=>∃ a,sv=some (some (.ref a))∧B=some a∧F a=none∧OwnOk K F H a o
def bZ0 (K:PySem.W.Frag)(P:Addr):Prop:=∃ (f c:Addr) (o oc:Obj) (fd:FuncData) (vs:Array Value),nsIn K mainGlobals "is_number_text"=some (some (.ref f))∧K.lookup f=some o∧o.data=.func fd∧fd.code=.ref c∧K.lookup c=some oc∧oc.data=.fields vs∧vs[11]?=some (.ref P)
def Tb (K:PySem.W.Frag)(F:Hp):Prop:=∀ P,bZ0 K P→F P=some (Fr.TabP P)
theorem Tb.same {K:PySem.W.Frag}{F F':Hp}(h:Tb K F)(s:Same F F'):Tb K F':=fun P t=>s _ _ (h P t)
theorem Tb.none {K:PySem.W.Frag}{F:Hp}(h:nsIn K mainGlobals "is_number_text"=some none):Tb K F:=fun P ⟨f,_,_,_,_,_,e,_⟩=>by rw [h] at e;cases e
structure Lk (K:PySem.W.Frag) (F0 H0:Hp) (B:Option Addr) (σ:St) (δ:List Sl) (F H:Hp):Prop where
 fh:Same F H
 f0:Same F0 F
 h0:∀ a o,H0 a=some o→B≠some a→H a=some o
 ff:∀ a,H0 a≠none→F a=F0 a
 bt:∀ b,B=some b→H0 b≠none∧H b≠none
 len:δ.length=σ.length
 sl:∀ (i:Nat) (s:Sl),δ[i]?=some s→SlOk K H0 B F H (σ[i]?) s
 ne:∀ (i j:Nat) (o o':Ob),δ[i]?=some (.own o)→δ[j]?=some (.own o')→σ[i]?=σ[j]?→i=j
 nb:∀ (i j:Nat) (o o':Ob),δ[i]?=some (.bor o)→δ[j]?=some (.bor o')→i=j
 tb:Tb K F0
def Rok (K:PySem.W.Frag)(H0 F H:Hp)(σ:St)(δ:List Sl)(r:Rv)(v:V):Prop :=
 match r with
 | .d x=>Rp K F v x
 | .own o=>∃ a,v=.ref a∧F a=none∧H0 a=none∧OwnOk K F H a o∧∀ (i:Nat) (o':Ob),δ[i]?=some (Sl.own o')→σ[i]?≠some (some (V.ref a))
section
variable {K:PySem.W.Frag}{F0 H0 F H F' H':Hp}{B:Option Addr}{σ:St}{δ:List Sl}
theorem Lk.tbF (L:Lk K F0 H0 B σ δ F H):Tb K F:=L.tb.same L.f0
theorem Lk.nn (L:Lk K F0 H0 B σ δ F H){a:Addr}(h:H0 a≠none):H a≠none:=by
 by_cases b:B=some a
 ·exact (L.bt a b).2
 ·cases e:H0 a with
  | none=>exact absurd e h
  | some o=>rw [L.h0 a o e b];exact fun z=>by cases z
theorem Lk.fr0 (L:Lk K F0 H0 B σ δ F H){a:Addr}(h:H a=none):H0 a=none∧F a=none:=by
 constructor
 ·cases e:H0 a with
  | none=>rfl
  | some o=>exact absurd h (L.nn (by rw [e];intro z;cases z))
 ·exact L.fh.free h
theorem Lk.grow (L:Lk K F0 H0 B σ δ F H)(s1:Same F F')(s2:Same F' H')(s3:Same H H')(nf:∀ a,H a≠none→F' a=F a):Lk K F0 H0 B σ δ F' H':=by
 refine⟨s2,L.f0.trans s1,fun a o e b=>s3 _ _ (L.h0 a o e b),fun a h=>(nf a (L.nn h)).trans (L.ff a h),fun b e=>⟨(L.bt b e).1,?_⟩,L.len,fun i s e=>?_,L.ne,L.nb,L.tb⟩
 ·cases q:H b with
  | none=>exact absurd q (L.bt b e).2
  | some o=>rw [s3 _ _ q];exact fun z=>by cases z
 ·have q:=L.sl i s e
  cases s with
  | un=>trivial
  | d x=>obtain⟨v,e1,r⟩:=q;exact⟨v,e1,r.same s1⟩
  | own o =>
   obtain⟨a,e1,f,h,w⟩:=q
   obtain⟨ho,eh⟩:=w.there
   exact⟨a,e1,by rw [nf a (by rw [eh];intro z;cases z)];exact f,h,w.same s1 (by rw [eh];exact s3 _ _ eh)⟩
  | bor o =>
   obtain⟨a,e1,b,f,w⟩:=q
   obtain⟨ho,eh⟩:=w.there
   exact⟨a,e1,b,by rw [nf a (by rw [eh];intro z;cases z)];exact f,w.same s1 (by rw [eh];exact s3 _ _ eh)⟩
theorem getS {α:Type}{l:List α}{i j:Nat}{x y:α}(h:(l.set i x)[j]?=some y):(i=j∧y=x∧i < l.length)∨(i≠j∧l[j]?=some y):=by
 rw [List.getElem?_set] at h
 by_cases e:i=j
 ·rw [if_pos e] at h
  split at h
  ·cases h;exact .inl ⟨e,rfl,by assumption⟩
  ·cases h
 ·rw [if_neg e] at h
  exact .inr ⟨e,h⟩
theorem aC2 {δ:List Sl}{i:Nat}{s:Sl}(h:∀ (i j:Nat) (o o':Ob),δ[i]?=some (.bor o)→δ[j]?=some (.bor o')→i=j)(n:∀ o,s≠.bor o):∀ (j k:Nat) (o o':Ob),(δ.set i s)[j]?=some (.bor o)→(δ.set i s)[k]?=some (.bor o')→j=k:=by
 intro j k o o' e1 e2
 rcases getS e1 with ⟨_,z,_⟩ | ⟨_,e1⟩
 ·exact absurd z.symm (n o)
 ·rcases getS e2 with ⟨_,z,_⟩ | ⟨_,e2⟩
  ·exact absurd z.symm (n o')
  ·exact h j k o o' e1 e2
theorem Lk.set {i:Nat}{v:V}{x:D}(L:Lk K F0 H0 B σ δ F H)(r:Rp K F v x):Lk K F0 H0 B (σ.set i (some v)) (δ.set i (.d x)) F H:=by
 refine⟨L.fh,L.f0,L.h0,L.ff,L.bt,by simp [L.len],fun j s e=>?_,fun j k o o' e1 e2 e3=>?_,aC2 L.nb (fun _ z=>by cases z),L.tb⟩
 ·rcases getS e with ⟨rfl,rfl,lt⟩ | ⟨n,e⟩
  ·exact⟨v,by rw [getElem?_set_self (by rw [← L.len];exact lt)],r⟩
  ·have:=L.sl j s e
   rwa [getElem?_set_ne n]
 ·rcases getS e1 with ⟨_,z,_⟩ | ⟨n1,e1⟩
  ·cases z
  ·rcases getS e2 with ⟨_,z,_⟩ | ⟨n2,e2⟩
   ·cases z
   ·rw [getElem?_set_ne n1,getElem?_set_ne n2] at e3
    exact L.ne j k o o' e1 e2 e3
theorem Lk.setR {i:Nat}{v:V}{r:Rv}(L:Lk K F0 H0 B σ δ F H)(k:Rok K H0 F H σ δ r v):Lk K F0 H0 B (σ.set i (some v)) (δ.set i r.sl) F H:=by
 cases r with
 | d x=>exact L.set k
 | own o =>
  obtain⟨a,rfl,f,h,w,ap⟩:=k
  refine⟨L.fh,L.f0,L.h0,L.ff,L.bt,by simp [L.len],fun j s e=>?_,fun j k o1 o2 e1 e2 e3=>?_,aC2 L.nb (fun _ z=>by cases z),L.tb⟩
  ·rcases getS e with ⟨rfl,rfl,lt⟩ | ⟨n,e⟩
   ·exact⟨a,by rw [getElem?_set_self (by rw [← L.len];exact lt)],f,h,w⟩
   ·have:=L.sl j s e
    rwa [getElem?_set_ne n]
  ·rcases getS e1 with ⟨rfl,z,lt⟩ | ⟨n1,e1⟩
   ·rcases getS e2 with ⟨rfl,z2,_⟩ | ⟨n2,e2⟩
    ·rfl
    ·rw [getElem?_set_self (by rw [← L.len];exact lt),getElem?_set_ne n2] at e3
     exact absurd e3.symm (ap k o2 e2)
   ·rcases getS e2 with ⟨rfl,z2,lt⟩ | ⟨n2,e2⟩
    ·rw [getElem?_set_self (by rw [← L.len];exact lt),getElem?_set_ne n1] at e3
     exact absurd e3 (ap j o1 e1)
    ·rw [getElem?_set_ne n1,getElem?_set_ne n2] at e3
     exact L.ne j k o1 o2 e1 e2 e3
theorem Lk.froz {i:Nat}{o:Ob}{x:D}(L:Lk K F0 H0 B σ δ F H)(e:δ[i]?=some (.own o))(f:o.frz=some x):∃ F' v,Lk K F0 H0 B σ (δ.set i (.d x)) F' H∧Same F F'∧σ[i]?=some (some v)∧Rp K F' v x:=by
 obtain⟨a,e1,fn,hn,w⟩:=L.sl i _ e
 obtain⟨ho,eh,r⟩:=w.frz f fn
 have sf:Same F (upd F a ho):=Fr.Same.new fn
 refine⟨upd F a ho,.ref a,⟨fun b u q=>?_,L.f0.trans sf,L.h0,fun b q=>?_,L.bt,by simp [L.len],fun j s ej=>?_,fun j k o1 o2 e1 e2 e3=>?_,aC2 L.nb (fun _ z=>by cases z),L.tb⟩,sf,e1,r⟩
 ·by_cases hb:b=a
  ·subst hb;rw [ab5] at q;cases q;exact eh
  ·rw [ab2 hb] at q;exact L.fh _ _ q
 ·have:b≠a:=by rintro rfl;exact q hn
  rw [ab2 this];exact L.ff b q
 ·rcases getS ej with ⟨rfl,rfl,lt⟩ | ⟨n,ej⟩
  ·exact⟨_,e1,r⟩
  ·have q:=L.sl j s ej
   cases s with
   | un=>trivial
   | d y=>obtain⟨v,e2,r2⟩:=q;exact⟨v,e2,r2.same sf⟩
   | own o' =>
    obtain⟨b,e2,f2,h2,w2⟩:=q
    have nb:b≠a:=by
     rintro rfl
     exact n (L.ne i j o o' e ej (by rw [e1,e2]))
    exact⟨b,e2,by rw [ab2 nb];exact f2,h2,w2.same sf rfl⟩
   | bor o' =>
    obtain⟨b,e2,b2,f2,w2⟩:=q
    have nb:b≠a:=by rintro rfl;exact (L.bt b b2).1 hn
    exact⟨b,e2,b2,by rw [ab2 nb];exact f2,w2.same sf rfl⟩
 ·rcases getS e1 with ⟨_,z,_⟩ | ⟨n1,e1⟩
  ·cases z
  ·rcases getS e2 with ⟨_,z,_⟩ | ⟨n2,e2⟩
   ·cases z
   ·exact L.ne j k o1 o2 e1 e2 e3
theorem Lk.mut {i:Nat}{o o':Ob}{a:Addr}{ho:HO}(L:Lk K F0 H0 B σ δ F H)(e:δ[i]?=some (.own o))(ea:σ[i]?=some (some (.ref a)))(w:OwnOk K F (upd H a ho) a o'):Lk K F0 H0 B σ (δ.set i (.own o')) F (upd H a ho):=by
 obtain⟨a',e1,fn,hn,w0⟩:=L.sl i _ e
 rw [ea] at e1;cases e1
 have up:∀ b,b≠a→upd H a ho b=H b:=fun b n=>ab2 n
 refine⟨fun b u q=>?_,L.f0,fun b u q1 q2=>?_,L.ff,fun b q=>⟨(L.bt b q).1,?_⟩,by simp [L.len],fun j s ej=>?_,fun j k o1 o2 e1 e2 e3=>?_,aC2 L.nb (fun _ z=>by cases z),L.tb⟩
 ·have:b≠a:=by rintro rfl;rw [fn] at q;cases q
  rw [up b this];exact L.fh _ _ q
 ·have:b≠a:=by rintro rfl;rw [hn] at q1;cases q1
  rw [up b this];exact L.h0 b u q1 q2
 ·have:b≠a:=by rintro rfl;exact (L.bt b q).1 hn
  rw [up b this];exact (L.bt b q).2
 ·rcases getS ej with ⟨rfl,rfl,lt⟩ | ⟨n,ej⟩
  ·exact⟨a,ea,fn,hn,w⟩
  ·have q:=L.sl j s ej
   cases s with
   | un=>trivial
   | d y=>exact q
   | own o3 =>
    obtain⟨b,e2,f2,h2,w2⟩:=q
    have nb:b≠a:=by
     rintro rfl
     exact n (L.ne i j o o3 e ej (by rw [ea,e2]))
    exact⟨b,e2,f2,h2,w2.same (Same.refl _) (up b nb)⟩
   | bor o3 =>
    obtain⟨b,e2,b2,f2,w2⟩:=q
    have nb:b≠a:=by rintro rfl;exact (L.bt b b2).1 hn
    exact⟨b,e2,b2,f2,w2.same (Same.refl _) (up b nb)⟩
 ·rcases getS e1 with ⟨rfl,z,_⟩ | ⟨n1,e1⟩
  ·rcases getS e2 with ⟨rfl,z2,_⟩ | ⟨n2,e2⟩
   ·rfl
   ·exact L.ne i k o o2 e e2 e3
  ·rcases getS e2 with ⟨rfl,z2,_⟩ | ⟨n2,e2⟩
   ·exact L.ne j i o1 o e1 e e3
   ·exact L.ne j k o1 o2 e1 e2 e3
theorem Lk.mutB {i:Nat}{o o':Ob}{a:Addr}{ho:HO}(L:Lk K F0 H0 B σ δ F H)(e:δ[i]?=some (.bor o))(ea:σ[i]?=some (some (.ref a)))(w:OwnOk K F (upd H a ho) a o') :
  Lk K F0 H0 B σ (δ.set i (.bor o')) F (upd H a ho):=by
 obtain⟨a',e1,hB,fn,w0⟩:=L.sl i _ e
 rw [ea] at e1;cases e1
 have up:∀ b,b≠a→upd H a ho b=H b:=fun b n=>ab2 n
 have hn:=(L.bt a hB).1
 refine⟨fun b u q=>?_,L.f0,fun b u q1 q2=>?_,L.ff,fun b q=>⟨(L.bt b q).1,?_⟩,by simp [L.len],fun j s ej=>?_,fun j k o1 o2 e1 e2 e3=>?_,fun j k o1 o2 e1 e2=>?_,L.tb⟩
 ·have:b≠a:=by rintro rfl;rw [fn] at q;cases q
  rw [up b this];exact L.fh _ _ q
 ·have:b≠a:=by rintro rfl;exact q2 hB
  rw [up b this];exact L.h0 b u q1 q2
 ·by_cases hb:b=a
  ·subst hb;rw [ab5];intro z;cases z
  ·rw [up b hb];exact (L.bt b q).2
 ·rcases getS ej with ⟨rfl,rfl,lt⟩ | ⟨n,ej⟩
  ·exact⟨a,ea,hB,fn,w⟩
  ·have q:=L.sl j s ej
   cases s with
   | un=>trivial
   | d y=>exact q
   | own o3 =>
    obtain⟨b,e2,f2,h2,w2⟩:=q
    have nb:b≠a:=by rintro rfl;exact hn h2
    exact⟨b,e2,f2,h2,w2.same (Same.refl _) (up b nb)⟩
   | bor o3=>exact absurd (L.nb i j o o3 e ej) n
 ·rcases getS e1 with ⟨rfl,z,_⟩ | ⟨n1,e1⟩
  ·cases z
  ·rcases getS e2 with ⟨rfl,z2,_⟩ | ⟨n2,e2⟩
   ·cases z2
   ·exact L.ne j k o1 o2 e1 e2 e3
 ·rcases getS e1 with ⟨rfl,z,_⟩ | ⟨n1,e1⟩
  ·rcases getS e2 with ⟨rfl,z2,_⟩ | ⟨n2,e2⟩
   ·rfl
   ·exact L.nb i k o o2 e e2
  ·rcases getS e2 with ⟨rfl,z2,_⟩ | ⟨n2,e2⟩
   ·exact L.nb j i o1 o e1 e
   ·exact L.nb j k o1 o2 e1 e2
theorem Lk.newO {p:Addr}{ho:HO}{o:Ob}(L:Lk K F0 H0 B σ δ F H)(hp:H p=none)(w:OwnOk K F (upd H p ho) p o):Lk K F0 H0 B σ δ F (upd H p ho)∧Rok K H0 F (upd H p ho) σ δ (.own o) (.ref p):=by
 have s:=Fr.Same.new (o:=ho) hp
 refine⟨L.grow (Same.refl _) (L.fh.trans s) s fun _ _=>rfl,p,rfl,(L.fr0 hp).2,(L.fr0 hp).1,w,fun i o' e z=>?_⟩
 obtain⟨a,e1,_,_,w'⟩:=L.sl i _ e
 rw [z] at e1;cases e1
 obtain⟨ho,eh⟩:=w'.there
 rw [hp] at eh;cases eh
theorem Lk.newD {p:Addr}{ho:HO}(L:Lk K F0 H0 B σ δ F H)(hp:H p=none):Lk K F0 H0 B σ δ (upd F p ho) (upd H p ho)∧Same F (upd F p ho):=by
 have s:=Fr.Same.new (o:=ho) hp
 have sf:Same F (upd F p ho):=Fr.Same.new (L.fr0 hp).2
 refine⟨L.grow sf (fun b u q=>?_) s fun a h=>?_,sf⟩
 ·by_cases hb:b=p
  ·subst hb;rw [ab5] at q ⊢;exact q
  ·rw [ab2 hb] at q ⊢;exact L.fh _ _ q
 ·have:a≠p:=by rintro rfl;exact h hp
  rw [ab2 this]
theorem Lk.thaw {r:Rv}{v:V}{x:D}(L:Lk K F0 H0 B σ δ F H)(k:Rok K H0 F H σ δ r v)(e:r.frz=some x):∃ F',Lk K F0 H0 B σ δ F' H∧Same F F'∧Rp K F' v x:=by
 cases r with
 | d y=>cases e;exact⟨F,L,Same.refl _,k⟩
 | own o =>
  obtain⟨a,rfl,fn,hn,w,ap⟩:=k
  obtain⟨ho,eh,r⟩:=w.frz e fn
  have sf:Same F (upd F a ho):=Fr.Same.new fn
  refine⟨upd F a ho,⟨fun b u q=>?_,L.f0.trans sf,L.h0,fun b q=>?_,L.bt,L.len,fun j s ej=>?_,L.ne,L.nb,L.tb⟩,sf,r⟩
  ·by_cases hb:b=a
   ·subst hb;rw [ab5] at q;cases q;exact eh
   ·rw [ab2 hb] at q;exact L.fh _ _ q
  ·have:b≠a:=by rintro rfl;exact q hn
   rw [ab2 this];exact L.ff b q
  ·have q:=L.sl j s ej
   cases s with
   | un=>trivial
   | d y=>obtain⟨v,e2,r2⟩:=q;exact⟨v,e2,r2.same sf⟩
   | own o' =>
    obtain⟨b,e2,f2,h2,w2⟩:=q
    have nb:b≠a:=by rintro rfl;exact ap j o' ej e2
    exact⟨b,e2,by rw [ab2 nb];exact f2,h2,w2.same sf rfl⟩
   | bor o' =>
    obtain⟨b,e2,b2,f2,w2⟩:=q
    have nb:b≠a:=by rintro rfl;exact (L.bt b b2).1 hn
    exact⟨b,e2,b2,by rw [ab2 nb];exact f2,w2.same sf rfl⟩
end
abbrev Zk:=Addr→List Sl→Prop
abbrev T3E:=Zk→List Sl→(Rv→List Sl→Prop)→Prop
abbrev T3D:=Zk→List Sl→(D→List Sl→Prop)→Prop
abbrev T3T:=Zk→List Sl→(Bool→List Sl→Prop)→Prop
abbrev T3A:=Zk→List Sl→(List D→List Sl→Prop)→Prop
structure En where
 nx:List Sl→Prop
 rt:Rv→List Sl→Prop
 bk:List Sl→Prop:=fun _=>False
 ct:List Sl→Prop:=fun _=>False
abbrev T3S:=Zk→En→List Sl→Prop
def ZOk (K:PySem.W.Frag)(E:XK)(F0 H0:Hp)(B:Option Addr)(Z:Zk):Prop:=∀ C σ δ F H,Lk K F0 H0 B σ δ F H→Z C δ→E (.ref C) none H
section
variable (K:PySem.W.Frag)(E:XK)(F0 H0:Hp)(B:Option Addr)
def LE (t:T3E):TE:=fun σ H Q=>∃ δ F Z P,Lk K F0 H0 B σ δ F H∧ZOk K E F0 H0 B Z∧t Z δ P∧∀ r δ' v F' H',P r δ'→Lk K F0 H0 B σ δ' F' H'→Same F F'→Rok K H0 F' H' σ δ' r v→Q v H'
def LD (t:T3D):TE:=fun σ H Q=>∃ δ F Z P,Lk K F0 H0 B σ δ F H∧ZOk K E F0 H0 B Z∧t Z δ P∧∀ x δ' v F' H',P x δ'→Lk K F0 H0 B σ δ' F' H'→Same F F'→Rp K F' v x→Q v H'
def LT (t:T3T):TT:=fun σ H Q=>∃ δ F Z P,Lk K F0 H0 B σ δ F H∧ZOk K E F0 H0 B Z∧t Z δ P∧∀ b δ' F' H',P b δ'→Lk K F0 H0 B σ δ' F' H'→Same F F'→Q b H'
def LA (t:T3A):TA:=fun σ H Q=>∃ δ F Z P,Lk K F0 H0 B σ δ F H∧ZOk K E F0 H0 B Z∧t Z δ P∧∀ xs δ' vs F' H',P xs δ'→Lk K F0 H0 B σ δ' F' H'→Same F F'→Rps K F' vs xs→Q vs H'
structure EnOk (Fb:Hp) (En:En) (Dn:Ends):Prop where
 nx:∀ σ δ F H,En.nx δ→Lk K F0 H0 B σ δ F H→Same Fb F→Dn.nx σ H
 rt:∀ r v σ δ F H,En.rt r δ→Lk K F0 H0 B σ δ F H→Same Fb F→Rok K H0 F H σ δ r v→Dn.rt v H
 bk:∀ σ δ F H,En.bk δ→Lk K F0 H0 B σ δ F H→Same Fb F→Dn.bk σ H
 ct:∀ σ δ F H,En.ct δ→Lk K F0 H0 B σ δ F H→Same Fb F→Dn.ct σ H
theorem EnOk.up {K:PySem.W.Frag}{F0 H0 Fb Fb':Hp}{B:Option Addr}{En:En}{Dn:Ends}(h:EnOk K F0 H0 B Fb En Dn)(s:Same Fb Fb'):EnOk K F0 H0 B Fb' En Dn :=
 ⟨fun σ δ F H p L s'=>h.nx σ δ F H p L (s.trans s'),fun r v σ δ F H p L s' k=>h.rt r v σ δ F H p L (s.trans s') k,fun σ δ F H p L s'=>h.bk σ δ F H p L (s.trans s'),fun σ δ F H p L s'=>h.ct σ δ F H p L (s.trans s')⟩
def LS (t:T3S):TS:=fun Dn σ H=>∃ δ F Z En,Lk K F0 H0 B σ δ F H∧ZOk K E F0 H0 B Z∧t Z En δ∧EnOk K F0 H0 B F En Dn
end
structure E3 (X:Cx) (E:XK) (e:Expr) (t:T3E):Prop where
 h:∀ F0 H0 B,PE X e (LE X.K E F0 H0 B t)
structure D3 (X:Cx) (E:XK) (e:Expr) (t:T3D):Prop where
 h:∀ F0 H0 B,PE X e (LD X.K E F0 H0 B t)
structure C3 (X:Cx) (E:XK) (e:Expr) (t:T3T):Prop where
 h:∀ F0 H0 B,PT X e (LT X.K E F0 H0 B t)
structure W3 (X:Cx) (E:XK) (e:Expr) (t:T3T):Prop where
 h:∀ F0 H0 B,PW X e (LT X.K E F0 H0 B t)
structure A3 (X:Cx) (E:XK) (es:List Expr) (t:T3A):Prop where
 h:∀ F0 H0 B,PA X es (LA X.K E F0 H0 B t)
structure S3 (X:Cx) (E:XK) (st:Stmt) (t:T3S):Prop where
 h:∀ F0 H0 B,PS X st (LS X.K E F0 H0 B t)
structure B3 (X:Cx) (E:XK) (sts:List Stmt) (t:T3S):Prop where
 h:∀ F0 H0 B,PSs X sts (LS X.K E F0 H0 B t)
theorem ac4 {X:Cx}{e:Expr}{t t':TE}(h:PE X e t)(i:∀ σ H Q,t' σ H Q→t σ H Q):PE X e t':=fun pins s σ H Q I w=>h pins s σ H Q I (i _ _ _ w)
theorem aw1 {X:Cx}{e:Expr}{t t':TT}(h:PT X e t)(i:∀ σ H Q,t' σ H Q→t σ H Q):PT X e t':=fun pins s σ H Q I w=>h pins s σ H Q I (i _ _ _ w)
theorem bR1 {X:Cx}{e:Expr}{t t':TT}(h:PW X e t)(i:∀ σ H Q,t' σ H Q→t σ H Q):PW X e t':=fun wh pins s σ H Q I w=>h wh pins s σ H Q I (i _ _ _ w)
theorem bn6 {X:Cx}{e:List Expr}{t t':TA}(h:PA X e t)(i:∀ σ H Q,t' σ H Q→t σ H Q):PA X e t':=fun pos pins s σ H Q I w=>h pos pins s σ H Q I (i _ _ _ w)
theorem af8 {X:Cx}{e:Stmt}{t t':TS}(h:PS X e t)(i:∀ D σ H,t' D σ H→t D σ H):PS X e t':=fun pins s σ H Q I w=>h pins s σ H Q I (i _ _ _ w)
theorem bd1 {X:Cx}{e:List Stmt}{t t':TS}(h:PSs X e t)(i:∀ D σ H,t' D σ H→t D σ H):PSs X e t':=fun pins s σ H Q I w=>h pins s σ H Q I (i _ _ _ w)
section
variable {X:Cx}{E:XK}{e a b c:Expr}{pos:Pos}
def rv (t:T3D):T3E:=fun Z δ Q=>t Z δ fun x δ'=>Q (.d x) δ'
def fz (t:T3E):T3D:=fun Z δ Q=>t Z δ fun r δ'=>match r.frz with
 | some x=>Q x δ'
 | none=>False
theorem D3.toE {t:T3D}(h:D3 X E e t):E3 X E e (rv t):=⟨fun F0 H0 B=>ac4 (h.h F0 H0 B) fun σ H Q hh=>ex4 hh fun δ F Z P L z w q =>
 ⟨δ,F,Z,_,L,z,w,fun x δ' v F' H' p L' s r=>q (.d x) δ' v F' H' p L' s r⟩⟩
theorem E3.toD {t:T3E}(h:E3 X E e t):D3 X E e (fz t):=⟨fun F0 H0 B=>ac4 (h.h F0 H0 B) fun σ H Q hh=>ex4 hh fun δ F Z P L z w q =>
 ⟨δ,F,Z,_,L,z,w,fun r δ' v F' H' p L' s k=>by
  cases e:r.frz with
  | none=>rw [e] at p;exact p.elim
  | some x =>
   rw [e] at p
   obtain⟨F2,L2,s2,r2⟩:=L'.thaw k e
   exact q x δ' v F2 H' p L2 (s.trans s2) r2⟩⟩
def tN (i:Nat):T3D:=fun _ δ Q=>match δ[i]? with
 | some (.d x)=>Q x δ
 | some (.own o)=>(match o.frz with
  | some x=>Q x (δ.set i (.d x))
  | none=>False)
 | _=>False
theorem bR2 {i:Nat}{x:Str}(hN:X.N[i]?=some x)(hv:Vis X.env.scope x)(hd:(x == ("__debug__" : Str))=false)(hcd:(x == ("__classdict__" : Str))=false):D3 X E (.Name x pos) (tN i):=⟨fun F0 H0 B =>
 ac4 (ae3 hN hv hd hcd) fun σ H Q hh=>ex4 hh fun δ F Z P L z w q=>by
  unfold tN at w
  cases e:δ[i]? with
  | none=>rw [e] at w;exact w.elim
  | some s =>
   rw [e] at w
   cases s with
   | un=>exact w.elim
   | bor o=>exact w.elim
   | d x =>
    obtain⟨v,e1,r⟩:=L.sl i _ e
    exact⟨v,e1,q x δ v F H w L (Same.refl _) r⟩
   | own o =>
    dsimp only at w
    cases e2:o.frz with
    | none=>rw [e2] at w;exact w.elim
    | some y =>
     rw [e2] at w
     obtain⟨F',v,L',s,e1,r⟩:=L.froz e e2
     exact⟨v,e1,q y _ v F' H w L' s r⟩⟩
theorem dv (i:Nat){x:Str}(hN:X.N[i]?=some x:=by rfl)(hv:Vis X.env.scope x:=by first | exact Or.inl rfl | exact Or.inr (Or.inl rfl) | exact Or.inr (Or.inr rfl))(hd:(x == ("__debug__" : Str))=false:=by decide)
  (hcd:(x == ("__classdict__" : Str))=false:=by decide):D3 X E (.Name x pos) (tN i):=bR2 hN hv hd hcd
def tM (i:Nat):T3E:=fun _ δ Q=>match δ[i]? with
 | some (.d x)=>Q (.d x) δ
 | some (.own o)=>Q (.own o) (δ.set i .un)
 | _=>False
theorem Lk.out {K:PySem.W.Frag}{F0 H0 F H:Hp}{B:Option Addr}{σ:St}{δ:List Sl}{i:Nat}(L:Lk K F0 H0 B σ δ F H):Lk K F0 H0 B σ (δ.set i .un) F H:=by
 refine⟨L.fh,L.f0,L.h0,L.ff,L.bt,by simp [L.len],fun j s e=>?_,fun j k o o' e1 e2 e3=>?_,aC2 L.nb (fun _ z=>by cases z),L.tb⟩
 ·rcases getS e with ⟨rfl,rfl,lt⟩ | ⟨n,e⟩
  ·trivial
  ·exact L.sl j s e
 ·rcases getS e1 with ⟨_,z,_⟩ | ⟨n1,e1⟩
  ·cases z
  ·rcases getS e2 with ⟨_,z,_⟩ | ⟨n2,e2⟩
   ·cases z
   ·exact L.ne j k o o' e1 e2 e3
theorem af9 (i:Nat){x:Str}(hN:X.N[i]?=some x:=by rfl)(hv:Vis X.env.scope x:=by first | exact Or.inl rfl | exact Or.inr (Or.inl rfl) | exact Or.inr (Or.inr rfl))(hd:(x == ("__debug__" : Str))=false:=by decide)
  (hcd:(x == ("__classdict__" : Str))=false:=by decide):E3 X E (.Name x pos) (tM i):=⟨fun F0 H0 B =>
 ac4 (ae3 hN hv hd hcd) fun σ H Q hh=>ex4 hh fun δ F Z P L z w q=>by
  unfold tM at w
  cases e:δ[i]? with
  | none=>rw [e] at w;exact w.elim
  | some s =>
   rw [e] at w
   cases s with
   | un=>exact w.elim
   | bor o=>exact w.elim
   | d x =>
    obtain⟨v,e1,r⟩:=L.sl i _ e
    exact⟨v,e1,q (.d x) δ v F H w L (Same.refl _) r⟩
   | own o =>
    obtain⟨a,e1,fn,hn,ow⟩:=L.sl i _ e
    refine⟨.ref a,e1,q (.own o) _ _ F H w L.out (Same.refl _) ⟨a,rfl,fn,hn,ow,fun j o' ej z=>?_⟩⟩
    rcases getS ej with ⟨_,z',_⟩ | ⟨n,ej⟩
    ·cases z'
    ·exact n (L.ne i j o o' e ej (by rw [e1,z]))⟩
def tK (x:D):T3D:=fun _ δ Q=>Q x δ
theorem aF4 {v:V}{x:D}(h:PE X e (tC v))(r:∀ F,Rp X.K F v x):D3 X E e (tK x):=⟨fun F0 H0 B=>ac4 h fun σ H Q hh=>ex4 hh fun δ F Z P L z w q=>q x δ v F H w L (Same.refl _) (r F)⟩
theorem aa4 {i j}:D3 X E (.Constant (.int i) j pos) (tK (.int i)):=aF4 bl3 fun _=>.int i
theorem d_bl {b j}:D3 X E (.Constant (.bool b) j pos) (tK (.bl b)):=aF4 bW4 fun _=>.bl b
theorem bC5 {x j}:D3 X E (.Constant (.str x) j pos) (tK (.str x)):=aF4 bN8 fun _=>.str x
theorem bn7 {x:Str}{u:Value}{v:V}{y:D}(hg:Gl X x)(hm:X.mg x=some u)(r:RelV v u)(p:∀ F,Rp X.K F v y)(hd:(x == ("__debug__" : Str))=false:=by decide):D3 X E (.Name x pos) (tK y):=aF4 (bE8 hg hm r hd) p
def R3 (K:PySem.W.Frag)(r:R2)(r3:D→D→(D→Prop)→Prop):Prop:=∀ F H x y v u (Q:VK) (P:D→Prop),Same F H→Rp K F v x→Rp K F u y→r3 x y P→(∀ z w,P z→Rp K F w z→Q w H)→r v u H Q
def tO (r3:D→D→(D→Prop)→Prop)(a b:T3D):T3D:=fun Z δ Q=>a Z δ fun x δ1=>b Z δ1 fun y δ2=>r3 x y fun z=>Q z δ2
theorem aT3 {K:PySem.W.Frag}{F0 H0:Hp}{B:Option Addr}{ta tb:T3D}{r:R2}{r3:D→D→(D→Prop)→Prop}(rel:R3 K r r3){σ:St}{H:Hp}{Q:VK}(h:LD K E F0 H0 B (tO r3 ta tb) σ H Q):tOp r (LD K E F0 H0 B ta) (LD K E F0 H0 B tb) σ H Q:=by
 obtain⟨δ,F,Z,P,L,z,w,q⟩:=h
 refine⟨δ,F,Z,_,L,z,w,fun x δ1 v F1 H1 p1 L1 s1 r1=>⟨δ1,F1,Z,_,L1,z,p1,fun y δ2 u F2 H2 p2 L2 s2 r2=>?_⟩⟩
 exact rel F2 H2 x y v u Q _ L2.fh (r1.same s2) r2 p2 fun zz ww pz rz=>q zz δ2 ww F2 H2 pz L2 (s1.trans s2) rz
theorem d_op {op:Operator}{r:R2}{r3:D→D→(D→Prop)→Prop}{ta tb:T3D}(ho:OpR X (binaryOp op) r)(rel:R3 X.K r r3)(ha:D3 X E a ta)(hb:D3 X E b tb):D3 X E (.BinOp a op b pos) (tO r3 ta tb) :=
 ⟨fun F0 H0 B=>ac4 (bB9 ho (ha.h F0 H0 B) (hb.h F0 H0 B)) fun _ _ _ h=>aT3 rel h⟩
theorem aK6 {op:CmpOp}{r:R2}{r3:D→D→(D→Prop)→Prop}{ta tb:T3D}(ho:OpR X (compareOp op) r)(rel:R3 X.K r r3)(ha:D3 X E a ta)(hb:D3 X E b tb)(hm:behindInMarks op b=false):D3 X E (.Compare a [op] [b] pos) (tO r3 ta tb) :=
 ⟨fun F0 H0 B=>ac4 (bc6 ho (ha.h F0 H0 B) (hb.h F0 H0 B) hm) fun _ _ _ h=>aT3 rel h⟩
theorem d_ix {r:R2}{r3:D→D→(D→Prop)→Prop}{ta tb:T3D}(ho:IxR X r)(rel:R3 X.K r r3)(ha:D3 X E a ta)(hb:D3 X E b tb)(hs:av9 b):D3 X E (.Subscript a b pos) (tO r3 ta tb) :=
 ⟨fun F0 H0 B=>ac4 (bC3 ho (ha.h F0 H0 B) (hb.h F0 H0 B) hs) fun _ _ _ h=>aT3 rel h⟩
def tB3 (t:T3D):T3T:=fun Z δ Q=>t Z δ fun x δ'=>match x with
 | .bl c=>Q c δ'
 | _=>False
theorem aC3 {x:D}{P:Bool→Prop}(h:match x with
 | .bl c=>P c
 | _=>False):∃ c,x=.bl c∧P c:=by
 cases x with
 | bl c=>exact⟨c,rfl,h⟩
 | _=>exact h.elim
theorem ae7 {op:CmpOp}{r:R2}{r3:D→D→(D→Prop)→Prop}{ta tb:T3D}(ho:OpR X (compareOp op) r)(rel:R3 X.K r r3)(ha:D3 X E a ta)(hb:D3 X E b tb)(hm:behindInMarks op b=false):C3 X E (.Compare a [op] [b] pos) (tB3 (tO r3 ta tb)) :=
 ⟨fun F0 H0 B=>aw1 (aN5 ho (ha.h F0 H0 B) (hb.h F0 H0 B) hm) fun σ H Q hh=>ex4 hh fun δ F Z P L z w q=>aT3 rel ⟨δ,F,Z,_,L,z,w,fun x δ' v F' H' p L' s r=>by
  obtain⟨c,rfl,k⟩:=aC3 p
  exact⟨c,r.inv_bl,q _ δ' F' H' k L' s⟩⟩⟩
theorem aT4 {t:T3D}(h:D3 X E e t)(he:∀ whole,isTrue e X.env whole=(do let v ← whole;standAt e.pos;holding [v] (truthy v)):=by intro _;rfl):C3 X E e (tB3 t) :=
 ⟨fun F0 H0 B=>aw1 (bO1 (h.h F0 H0 B) he) fun σ H Q hh=>ex4 hh fun δ F Z P L z w q=>⟨δ,F,Z,_,L,z,w,fun x δ' v F' H' p L' s r=>by
  obtain⟨c,rfl,k⟩:=aC3 p
  exact⟨c,r.inv_bl,q _ δ' F' H' k L' s⟩⟩⟩
def Br:Bool→Prop→Prop→Prop
 | true,A,_=>A
 | false,_,B=>B
theorem br {b:Bool}{A B:Prop}(h1:b=true→A)(h2:b=false→B):Br b A B:=by
 cases b with
 | true=>exact h1 rfl
 | false=>exact h2 rfl
theorem brd {p:Prop}[Decidable p]{A B:Prop}(h1:p→A)(h2:¬ p→B):Br (decide p) A B:=br (fun h=>h1 (of_decide_eq_true h)) fun h=>h2 (of_decide_eq_false h)
theorem brn {p:Prop}[Decidable p]{A B:Prop}(h1:¬ p→A)(h2:p→B):Br (!decide p) A B:=br (fun h=>h1 (by simpa using h)) fun h=>h2 (by simpa using h)
def bZ1 (t:T3T):T3T:=fun Z δ Q=>t Z δ fun c δ'=>Q (!c) δ'
theorem aT5 {t:T3T}(h:C3 X E a t):C3 X E (.UnaryOp .Not a pos) (bZ1 t) :=
 ⟨fun F0 H0 B=>aw1 (bO3 (h.h F0 H0 B)) fun σ H Q hh=>ex4 hh fun δ F Z P L z w q=>⟨δ,F,Z,_,L,z,w,fun b δ' F' H' p L' s=>q _ δ' F' H' p L' s⟩⟩
def bZ2 (t u:T3T):T3T:=fun Z δ Q=>t Z δ fun c δ'=>Br c (u Z δ' Q) (Q false δ')
theorem bR4 {t:T3T}(h:C3 X E a t):W3 X E (.BoolOp .And [a] pos) t:=⟨fun F0 H0 B=>bF0 (h.h F0 H0 B)⟩
theorem w_and {t u:T3T}{rest:List Expr}(h:C3 X E a t)(k:W3 X E (.BoolOp .And (b::rest) pos) u):W3 X E (.BoolOp .And (a::b::rest) pos) (bZ2 t u) :=
 ⟨fun F0 H0 B=>bR1 (bO2 (h.h F0 H0 B) (k.h F0 H0 B)) fun σ H Q hh=>ex4 hh fun δ F Z P L z w q=>⟨δ,F,Z,_,L,z,w,fun c δ' F' H' p L' s=>by
  cases c with
  | true =>
   rw [if_pos rfl]
   exact⟨δ',F',Z,P,L',z,p,fun c2 δ2 F2 H2 p2 L2 s2=>q c2 δ2 F2 H2 p2 L2 (s.trans s2)⟩
  | false =>
   rw [if_neg Bool.false_ne_true]
   exact q _ δ' F' H' p L' s⟩⟩
theorem W3.toC {t:T3T}(h:W3 X E e t):C3 X E e t:=⟨fun F0 H0 B=>(h.h F0 H0 B).pt⟩
def bZ3 (t u:T3D):T3D:=fun Z δ Q=>t Z δ fun x δ'=>match x with
 | .bl c=>Br c (u Z δ' Q) (Q (.bl false) δ')
 | _=>False
def tOrD (t u:T3D):T3D:=fun Z δ Q=>t Z δ fun x δ'=>match x with
 | .bl c=>Br c (Q (.bl true) δ') (u Z δ' Q)
 | _=>False
def bZ4 (t:T3D):T3D:=fun Z δ Q=>t Z δ fun x δ'=>match x with
 | .bl c=>Q (.bl (!c)) δ'
 | _=>False
theorem bi2 {op}{t:T3D}(h:D3 X E a t):D3 X E (.BoolOp op [a] pos) t:=⟨fun F0 H0 B=>bO4 (h.h F0 H0 B)⟩
theorem bC6 {t u:T3D}{rest:List Expr}(h:D3 X E a t)(k:D3 X E (.BoolOp .And (b::rest) pos) u):D3 X E (.BoolOp .And (a::b::rest) pos) (bZ3 t u) :=
 ⟨fun F0 H0 B=>ac4 (bO5 (h.h F0 H0 B) (k.h F0 H0 B)) fun σ H Q hh=>ex4 hh fun δ F Z P L z w q=>⟨δ,F,Z,_,L,z,w,fun x δ' v F' H' p L' s r=>by
  cases x with
  | bl c =>
   obtain rfl:=r.inv_bl
   refine⟨c,rfl,?_⟩
   cases c with
   | true =>
    rw [if_pos rfl]
    exact⟨δ',F',Z,P,L',z,p,fun c2 δ2 v2 F2 H2 p2 L2 s2 r2=>q c2 δ2 v2 F2 H2 p2 L2 (s.trans s2) r2⟩
   | false =>
    rw [if_neg Bool.false_ne_true]
    exact q _ δ' _ F' H' p L' s (.bl false)
  | _=>exact p.elim⟩⟩
theorem d_or {t u:T3D}{rest:List Expr}(h:D3 X E a t)(k:D3 X E (.BoolOp .Or (b::rest) pos) u):D3 X E (.BoolOp .Or (a::b::rest) pos) (tOrD t u) :=
 ⟨fun F0 H0 B=>ac4 (bW7 (h.h F0 H0 B) (k.h F0 H0 B)) fun σ H Q hh=>ex4 hh fun δ F Z P L z w q=>⟨δ,F,Z,_,L,z,w,fun x δ' v F' H' p L' s r=>by
  cases x with
  | bl c =>
   obtain rfl:=r.inv_bl
   refine⟨c,rfl,?_⟩
   cases c with
   | true =>
    rw [if_pos rfl]
    exact q _ δ' _ F' H' p L' s (.bl true)
   | false =>
    rw [if_neg Bool.false_ne_true]
    exact⟨δ',F',Z,P,L',z,p,fun c2 δ2 v2 F2 H2 p2 L2 s2 r2=>q c2 δ2 v2 F2 H2 p2 L2 (s.trans s2) r2⟩
  | _=>exact p.elim⟩⟩
theorem bZ5 {t:T3D}(h:D3 X E a t):D3 X E (.UnaryOp .Not a pos) (bZ4 t) :=
 ⟨fun F0 H0 B=>ac4 (bO6 (h.h F0 H0 B)) fun σ H Q hh=>ex4 hh fun δ F Z P L z w q=>⟨δ,F,Z,_,L,z,w,fun x δ' v F' H' p L' s r=>by
  cases x with
  | bl c =>
   obtain rfl:=r.inv_bl
   exact⟨c,rfl,q _ δ' _ F' H' p L' s (.bl _)⟩
  | _=>exact p.elim⟩⟩
def tIfE (c:T3T)(t u:T3E):T3E:=fun Z δ Q=>c Z δ fun b δ'=>Br b (t Z δ' Q) (u Z δ' Q)
theorem bH6 {tc:T3T}{t u:T3E}(hc:C3 X E c tc)(ha:E3 X E a t)(hb:E3 X E b u):E3 X E (.IfExp c a b pos) (tIfE tc t u) :=
 ⟨fun F0 H0 B=>ac4 (bu1 (hc.h F0 H0 B) (ha.h F0 H0 B) (hb.h F0 H0 B)) fun σ H Q hh=>ex4 hh fun δ F Z P L z w q=>⟨δ,F,Z,_,L,z,w,fun c δ' F' H' p L' s=>by
  cases c with
  | true =>
   rw [if_pos rfl]
   exact⟨δ',F',Z,P,L',z,p,fun r δ2 v F2 H2 p2 L2 s2 k=>q r δ2 v F2 H2 p2 L2 (s.trans s2) k⟩
  | false =>
   rw [if_neg Bool.false_ne_true]
   exact⟨δ',F',Z,P,L',z,p,fun r δ2 v F2 H2 p2 L2 s2 k=>q r δ2 v F2 H2 p2 L2 (s.trans s2) k⟩⟩⟩
def tU (r3:D→(D→Prop)→Prop)(a:T3D):T3D:=fun Z δ Q=>a Z δ fun x δ1=>r3 x fun z=>Q z δ1
def i1 (g:Int→D):D→(D→Prop)→Prop:=fun x P=>match x with
 | .int i=>P (g i)
 | _=>False
theorem ak3 {t:T3D}(h:D3 X E a t):D3 X E (.UnaryOp .USub a pos) (tU (i1 fun i=>.int (-i)) t) :=
 ⟨fun F0 H0 B=>ac4 (bC0 bl9 (h.h F0 H0 B)) fun σ H Q hh=>ex4 hh fun δ F Z P L z w q=>⟨δ,F,Z,_,L,z,w,fun x δ' v F' H' p L' s r=>by
  cases x with
  | int i=>exact⟨i,r.inv_int,q _ δ' _ F' H' p L' s (.int _)⟩
  | _=>exact p.elim⟩⟩
def i2 (g:Int→Int→D):D→D→(D→Prop)→Prop:=fun x y P=>match x,y with
 | .int i,.int j=>P (g i j)
 | _,_=>False
def i2c (C:Int→Int→Prop)(g:Int→Int→D):D→D→(D→Prop)→Prop:=fun x y P=>match x,y with
 | .int i,.int j=>C i j∧P (g i j)
 | _,_=>False
theorem aV3 {g:Int→Int→D}{x y:D}{P:D→Prop}(h:i2 g x y P):∃ i j,x=.int i∧y=.int j∧P (g i j):=by
 cases x with
 | int i =>
  cases y with
  | int j=>exact⟨i,j,rfl,rfl,h⟩
  | _=>exact h.elim
 | _=>exact h.elim
theorem bH7 {C:Int→Int→Prop}{g:Int→Int→D}{x y:D}{P:D→Prop}(h:i2c C g x y P):∃ i j,x=.int i∧y=.int j∧C i j∧P (g i j):=by
 cases x with
 | int i =>
  cases y with
  | int j=>exact⟨i,j,rfl,rfl,h⟩
  | _=>exact h.elim
 | _=>exact h.elim
theorem aF5 {K:PySem.W.Frag}{g:Int→Int→V}{g3:Int→Int→D}(hg:∀ F i j,Rp K F (g i j) (g3 i j)):R3 K (rI0 g) (i2 g3):=by
 intro F H x y v u Q P fh rx ry h q
 obtain⟨i,j,rfl,rfl,p⟩:=aV3 h
 exact⟨i,j,rx.inv_int,ry.inv_int,q _ _ p (hg _ _ _)⟩
theorem aw2 {K:PySem.W.Frag}{C C3:Int→Int→Prop}{g:Int→Int→V}{g3:Int→Int→D}(hC:∀ i j,C3 i j→C i j)(hg:∀ F i j,Rp K F (g i j) (g3 i j)):R3 K (rI C g) (i2c C3 g3):=by
 intro F H x y v u Q P fh rx ry h q
 obtain⟨i,j,rfl,rfl,c,p⟩:=bH7 h
 exact⟨i,j,rx.inv_int,ry.inv_int,hC _ _ c,q _ _ p (hg _ _ _)⟩
theorem ad2 {K:PySem.W.Frag}:R3 K (rI0 fun i j=>.int (i+j)) (i2 fun i j=>.int (i+j)):=aF5 fun _ _ _=>.int _
theorem ai6 {K:PySem.W.Frag}:R3 K (rI0 fun i j=>.int (i - j)) (i2 fun i j=>.int (i - j)):=aF5 fun _ _ _=>.int _
def Fit (i:Int):Prop:=i.natAbs < 2 ^ 65536
def FitM (i j:Int):Prop:=Fit i∧Fit j
theorem bZ6 {i j:Int}(h:FitM i j):Fr.CW i j:=⟨65536,h.1,h.2,by decide⟩
theorem ac9 {K:PySem.W.Frag}:R3 K (rI Fr.CW fun i j=>.int (i*j)) (i2c FitM fun i j=>.int (i*j)):=aw2 (fun _ _ h=>bZ6 h) fun _ _ _=>.int _
def DivM (_ j:Int):Prop:=0 < j∧j < 2 ^ 250
theorem ai9 {K:PySem.W.Frag}:R3 K (rI (fun _ j=>0 < j∧j < 2 ^ 250) fun i j=>.int (i / j)) (i2c DivM fun i j=>.int (i / j)):=aw2 (fun _ _ h=>h) fun _ _ _=>.int _
def ModM (_ j:Int):Prop:=0 < j
theorem af3 {K:PySem.W.Frag}:R3 K (rI (fun _ j=>0 < j) fun i j=>.int (i % j)) (i2c ModM fun i j=>.int (i % j)):=aw2 (fun _ _ h=>h) fun _ _ _=>.int _
def ModZ (_ j:Int):Prop:=j≠0
theorem bR5 {K:PySem.W.Frag}:R3 K (rI (fun _ j=>j≠0) fun i j=>.int (i.fmod j)) (i2c ModZ fun i j=>.int (i.fmod j)):=aw2 (fun _ _ h=>h) fun _ _ _=>.int _
def DivZ (_ j:Int):Prop:=j≠0∧j.natAbs < 2 ^ 250
theorem bd2 {K:PySem.W.Frag}:R3 K (rI (fun _ j=>j≠0∧j.natAbs < 2 ^ 250) fun i j=>.int (i.fdiv j)) (i2c DivZ fun i j=>.int (i.fdiv j)):=aw2 (fun _ _ h=>h) fun _ _ _=>.int _
theorem aK7 {K:PySem.W.Frag}:R3 K (rI CPow fun i j=>.int (i ^ j.toNat)) (i2c CPow fun i j=>.int (i ^ j.toNat)):=aw2 (fun _ _ h=>h) fun _ _ _=>.int _
theorem r_lt {K:PySem.W.Frag}:R3 K (rI0 fun i j=>.bl (decide (i < j))) (i2 fun i j=>.bl (decide (i < j))):=aF5 fun _ _ _=>.bl _
theorem r_le {K:PySem.W.Frag}:R3 K (rI0 fun i j=>.bl (decide (i≤j))) (i2 fun i j=>.bl (decide (i≤j))):=aF5 fun _ _ _=>.bl _
theorem r_gt {K:PySem.W.Frag}:R3 K (rI0 fun i j=>.bl (decide (j < i))) (i2 fun i j=>.bl (decide (j < i))):=aF5 fun _ _ _=>.bl _
theorem r_ge {K:PySem.W.Frag}:R3 K (rI0 fun i j=>.bl (decide (j≤i))) (i2 fun i j=>.bl (decide (j≤i))):=aF5 fun _ _ _=>.bl _
def i2eq:D→D→(D→Prop)→Prop:=i2 fun i j=>.bl (decide (i=j))
def i2ne:D→D→(D→Prop)→Prop:=i2 fun i j=>.bl (!decide (i=j))
theorem av8 (i j:Int):decide (V.int i=V.int j)=decide (i=j):=by
 by_cases h:i=j
 ·rw [h];simp
 ·rw [decide_eq_false h,decide_eq_false fun z=>h (by injection z)]
theorem r_eq {K:PySem.W.Frag}:R3 K rEq i2eq:=by
 intro F H x y v u Q P fh rx ry h q
 obtain⟨i,j,rfl,rfl,p⟩:=aV3 h
 obtain rfl:=rx.inv_int
 obtain rfl:=ry.inv_int
 exact⟨rfl,by rw [av8];exact q _ _ p (.bl _)⟩
theorem r_ne {K:PySem.W.Frag}:R3 K rNe i2ne:=by
 intro F H x y v u Q P fh rx ry h q
 obtain⟨i,j,rfl,rfl,p⟩:=aV3 h
 obtain rfl:=rx.inv_int
 obtain rfl:=ry.inv_int
 exact⟨rfl,by rw [av8];exact q _ _ p (.bl _)⟩
def tCh (r r':D→D→(D→Prop)→Prop)(a b c:T3D):T3D:=fun Z δ Q=>a Z δ fun x δ1=>b Z δ1 fun y δ2=>r x y fun z=>match z with
 | .bl k=>Br k (c Z δ2 fun w δ3=>r' y w fun z'=>Q z' δ3) (Q (.bl false) δ2)
 | _=>False
theorem bZ7 {K:PySem.W.Frag}{F0 H0:Hp}{B:Option Addr}{ta tb tc:T3D}{r r':R2}{r3 r3':D→D→(D→Prop)→Prop}(rel:R3 K r r3)(rel':R3 K r' r3'){σ:St}{H:Hp}{Q:VK}(h:LD K E F0 H0 B (tCh r3 r3' ta tb tc) σ H Q) :
  bm1 r r' (LD K E F0 H0 B ta) (LD K E F0 H0 B tb) (LD K E F0 H0 B tc) σ H Q:=by
 obtain⟨δ,F,Z,P,L,z,w,q⟩:=h
 refine⟨δ,F,Z,_,L,z,w,fun x δ1 v F1 H1 p1 L1 s1 r1=>⟨δ1,F1,Z,_,L1,z,p1,fun y δ2 u F2 H2 p2 L2 s2 r2=>?_⟩⟩
 refine rel F2 H2 x y v u _ _ L2.fh (r1.same s2) r2 p2 fun zz ww pz rz=>?_
 cases zz with
 | bl k =>
  obtain rfl:=rz.inv_bl
  refine⟨k,rfl,?_⟩
  cases k with
  | true =>
   rw [if_pos rfl]
   refine⟨δ2,F2,Z,_,L2,z,pz,fun y3 δ3 u3 F3 H3 p3 L3 s3 r3=>?_⟩
   exact rel' F3 H3 y y3 u u3 Q _ L3.fh (r2.same s3) r3 p3 fun zz ww pz rz=>q zz δ3 ww F3 H3 pz L3 ((s1.trans s2).trans s3) rz
  | false =>
   rw [if_neg Bool.false_ne_true]
   exact q _ δ2 _ F2 H2 pz L2 (s1.trans s2) (.bl false)
 | _=>exact pz.elim
theorem bH8 {op op':CmpOp}{r r':R2}{r3 r3':D→D→(D→Prop)→Prop}{ta tb tc:T3D}(ho:OpR X (compareOp op) r)(ho':OpR X (compareOp op') r')(rel:R3 X.K r r3)(rel':R3 X.K r' r3')(ha:D3 X E a ta)(hb:D3 X E b tb)(hc:D3 X E c tc)
  (hm:lastMarks [op,op'] [b,c]=false:=by with_unfolding_all rfl):D3 X E (.Compare a [op,op'] [b,c] pos) (tCh r3 r3' ta tb tc) :=
 ⟨fun F0 H0 B=>ac4 (bu5 ho ho' (ha.h F0 H0 B) (hb.h F0 H0 B) (hc.h F0 H0 B) hm) fun _ _ _ h=>bZ7 rel rel' h⟩
end
section
variable {X:Cx}{E:XK}{e a b c o:Expr}{es:List Expr}{pos:Pos}
def tA0:T3A:=fun _ δ Q=>Q [] δ
def tAc (t:T3D)(u:T3A):T3A:=fun Z δ Q=>t Z δ fun x δ1=>u Z δ1 fun xs δ2=>Q (x::xs) δ2
theorem aa3:A3 X E [] tA0:=⟨fun F0 H0 B=>bn6 aK1 fun σ H Q hh=>ex4 hh fun δ F Z P L z w q=>q [] δ [] F H w L (Same.refl _) .nil⟩
theorem aa0 {t:T3D}{u:T3A}(h:D3 X E e t)(r:A3 X E es u)(hs:starEach (e::es) X.env=(false,eval e X.env)::starEach es X.env:=by rfl):A3 X E (e::es) (tAc t u) :=
 ⟨fun F0 H0 B=>bn6 (ar8 (h.h F0 H0 B) (r.h F0 H0 B) hs) fun σ H Q hh=>ex4 hh fun δ F Z P L z w q=>⟨δ,F,Z,_,L,z,w,fun x δ1 v F1 H1 p1 L1 s1 r1 =>
  ⟨δ1,F1,Z,_,L1,z,p1,fun xs δ2 vs F2 H2 p2 L2 s2 r2=>q _ δ2 _ F2 H2 p2 L2 (s1.trans s2) (.cons (r1.same s2) r2)⟩⟩⟩
def Few (n:Nat)(P:Prop):Prop:=match ble n 1000000 with
 | true=>P
 | false=>False
theorem few {n:Nat}{P:Prop}(h:Few n P):n≤1000000∧P:=by
 unfold Few at h
 cases e:ble n 1000000 with
 | true=>rw [e] at h;exact⟨le_of_ble_eq_true e,h⟩
 | false=>rw [e] at h;exact h.elim
theorem af7 {n:Nat}(h:n≤1000000):n < sizeLine:=lt_of_le_of_lt h (by decide)
def tTu (t:T3A):T3D:=fun Z δ Q=>t Z δ fun xs δ'=>Few xs.length (Q (.tup xs) δ')
theorem ad1 {t:T3A}{x1}(h:A3 X E es t):D3 X E (.Tuple es x1 pos) (tTu t) :=
 ⟨fun F0 H0 B=>ac4 (aB5 (h.h F0 H0 B)) fun σ H Q hh=>ex4 hh fun δ F Z P L z w q=>⟨δ,F,Z,_,L,z,w,fun xs δ' vs F' H' p L' s r=>by
  obtain⟨n,p⟩:=few p
  refine⟨by rw [r.len];exact le_of_lt (af7 n),fun a ha=>?_⟩
  obtain⟨L2,s2⟩:=L'.newD (ho:=.tup vs) ha
  exact q _ δ' _ _ _ p L2 (s.trans s2) (.tup (SqT.of ab5) (r.same s2))⟩⟩
def tLs (t:T3A):T3E:=fun Z δ Q=>t Z δ fun xs δ'=>Few xs.length (Q (.own (.lst xs)) δ')
theorem ae4 {t:T3A}(h:A3 X E es t):E3 X E (.List es pos) (tLs t) :=
 ⟨fun F0 H0 B=>ac4 (bP7 (h.h F0 H0 B)) fun σ H Q hh=>ex4 hh fun δ F Z P L z w q=>⟨δ,F,Z,_,L,z,w,fun xs δ' vs F' H' p L' s r=>by
  obtain⟨n,p⟩:=few p
  refine⟨by rw [r.len];exact le_of_lt (af7 n),fun a ha=>?_⟩
  obtain⟨L2,k2⟩:=L'.newO (ho:=.lst vs) ha (o:=.lst xs) ⟨vs,ab5,r⟩
  exact q _ δ' _ _ _ p L2 s k2⟩⟩
def ixL:D→D→(D→Prop)→Prop:=fun x y P=>match x,y with
 | .lst xs,.int i=>∃ v,atI xs i=some v∧P v
 | _,_=>False
def ixT:D→D→(D→Prop)→Prop:=fun x y P=>match x,y with
 | .tup xs,.int i=>∃ v,atI xs i=some v∧P v
 | _,_=>False
theorem bi3 {K:PySem.W.Frag}{F:Hp}{vs:List V}{xs:List D}{i:Int}{x:D}(r:Rps K F vs xs)(h:atI xs i=some x):∃ v,atI vs i=some v∧Rp K F v x:=by
 unfold atI at h ⊢
 rw [r.len]
 cases e:ixN xs.length i with
 | none=>rw [e] at h;cases h
 | some j =>
  rw [e] at h
  exact r.at h
theorem bH9 {x y:D}{P:D→Prop}(h:ixL x y P):∃ xs i,x=.lst xs∧y=.int i∧∃ v,atI xs i=some v∧P v:=by
 cases x with
 | lst xs =>
  cases y with
  | int i=>exact⟨xs,i,rfl,rfl,h⟩
  | _=>exact h.elim
 | _=>exact h.elim
theorem bI0 {x y:D}{P:D→Prop}(h:ixT x y P):∃ xs i,x=.tup xs∧y=.int i∧∃ v,atI xs i=some v∧P v:=by
 cases x with
 | tup xs =>
  cases y with
  | int i=>exact⟨xs,i,rfl,rfl,h⟩
  | _=>exact h.elim
 | _=>exact h.elim
theorem bZ8 {K:PySem.W.Frag}:R3 K (rIxL K) ixL:=by
 intro F H x y v u Q P fh rx ry h q
 obtain⟨xs,i,rfl,rfl,z,hz,p⟩:=bH9 h
 obtain⟨a,vs,rfl,hs,rs⟩:=rx.inv_lst
 obtain rfl:=ry.inv_int
 obtain⟨w,hw,rw'⟩:=bi3 rs hz
 exact⟨_,_,_,w,rfl,rfl,SqL.of (fh _ _ hs),hw,q z w p rw'⟩
theorem bZ9 {K:PySem.W.Frag}:R3 K (rIxT K) ixT:=by
 intro F H x y v u Q P fh rx ry h q
 obtain⟨xs,i,rfl,rfl,z,hz,p⟩:=bI0 h
 obtain⟨a,vs,rfl,hs,rs⟩:=rx.inv_tup
 obtain rfl:=ry.inv_int
 obtain⟨w,hw,rw'⟩:=bi3 rs hz
 exact⟨_,_,_,w,rfl,rfl,Fr.ak6 fh hs,hw,q z w p rw'⟩
theorem aK8 {ta tb:T3D}(ha:D3 X E a ta)(hb:D3 X E b tb)(hs:av9 b:=by exact fun _ _=>rfl):D3 X E (.Subscript a b pos) (tO ixL ta tb):=d_ix aN7 bZ8 ha hb hs
theorem ad3 {ta tb:T3D}(ha:D3 X E a ta)(hb:D3 X E b tb)(hs:av9 b:=by exact fun _ _=>rfl):D3 X E (.Subscript a b pos) (tO ixT ta tb):=d_ix bP8 bZ9 ha hb hs
def Sl.list:Sl→Option (List D)
 | .d (.lst xs)=>some xs
 | .own (.lst xs)=>some xs
 | .bor (.lst xs)=>some xs
 | _=>none
theorem Lk.list {K:PySem.W.Frag}{F0 H0 F H:Hp}{B:Option Addr}{σ:St}{δ:List Sl}{i:Nat}{s:Sl}{xs:List D}(L:Lk K F0 H0 B σ δ F H)(e:δ[i]?=some s)(l:s.list=some xs):∃ a vs,σ[i]?=some (some (.ref a))∧SqL K H a vs∧Rps K F vs xs:=by
 have q:=L.sl i s e
 cases s with
 | un=>cases l
 | d x =>
  cases x with
  | lst ys =>
   cases l
   obtain⟨v,e1,r⟩:=q
   cases r with
   | lst hs rs=>exact⟨_,_,e1,SqL.of (L.fh _ _ hs),rs⟩
  | _=>cases l
 | own o =>
  cases o with
  | lst ys =>
   cases l
   obtain⟨a,e1,_,_,vs,hh,rs⟩:=q
   exact⟨a,vs,e1,SqL.of hh,rs⟩
  | _=>cases l
 | bor o =>
  cases o with
  | lst ys =>
   cases l
   obtain⟨a,e1,_,_,vs,hh,rs⟩:=q
   exact⟨a,vs,e1,SqL.of hh,rs⟩
  | _=>cases l
def gl (δ:List Sl)(i:Nat):Option (List D):=match δ[i]? with
 | some s=>s.list
 | none=>none
theorem Lk.gl {K:PySem.W.Frag}{F0 H0 F H:Hp}{B:Option Addr}{σ:St}{δ:List Sl}{i:Nat}{xs:List D}(L:Lk K F0 H0 B σ δ F H)(l:gl δ i=some xs):∃ a vs,σ[i]?=some (some (.ref a))∧SqL K H a vs∧Rps K F vs xs:=by
 unfold L3.gl at l
 cases e:δ[i]? with
 | none=>rw [e] at l;cases l
 | some s=>rw [e] at l;exact L.list e l
def tIxN (i:Nat)(t:T3D):T3D:=fun Z δ Q=>match gl δ i with
 | some _=>t Z δ fun y δ2=>match gl δ2 i,y with
  | some xs,.int k=>∃ v,atI xs k=some v∧Q v δ2
  | _,_=>False
 | none=>False
theorem ad6 (i:Nat){x:Str}{p:Pos}{t:T3D}(hb:D3 X E b t)(hN:X.N[i]?=some x:=by rfl)(hv:Vis X.env.scope x:=by first | exact Or.inl rfl | exact Or.inr (Or.inl rfl) | exact Or.inr (Or.inr rfl))(hd:(x == ("__debug__" : Str))=false:=by decide)
  (hcd:(x == ("__classdict__" : Str))=false:=by decide) (hs:av9 b:=by exact fun _ _=>rfl):D3 X E (.Subscript (.Name x p) b pos) (tIxN i t) :=
 ⟨fun F0 H0 B=>ac4 (bC3 aN7 (ae3 (pos:=p) hN hv hd hcd) (hb.h F0 H0 B) hs) fun σ H Q hh=>ex4 hh fun δ F Z P L z w q=>by
  unfold tIxN at w
  cases e0:L3.gl δ i with
  | none=>rw [e0] at w;exact w.elim
  | some xs0 =>
   rw [e0] at w
   obtain⟨a0,vs0,e1,_,_⟩:=L.gl e0
   refine⟨.ref a0,e1,δ,F,Z,_,L,z,w,fun y δ2 u F2 H2 p2 L2 s2 r2=>?_⟩
   cases e:L3.gl δ2 i with
   | none=>rw [e] at p2;exact p2.elim
   | some xs =>
    rw [e] at p2
    obtain⟨a,vs,e2,sq,rs⟩:=L2.gl e
    rw [e1] at e2
    cases e2
    cases r2 with
    | int k =>
     obtain⟨v,hv3,pv3⟩:=p2
     obtain⟨w',hw,rw'⟩:=bi3 rs hv3
     exact⟨_,vs,k,w',rfl,rfl,sq,hw,q v δ2 w' F2 H2 pv3 L2 s2 rw'⟩
    | _=>exact p2.elim⟩
def CR3 (K:PySem.W.Frag)(r:List V→Hp→VK→Prop)(r3:List D→(D→Prop)→Prop):Prop:=∀ F H xs vs (Q:VK) (P:D→Prop),Same F H→Rps K F vs xs→r3 xs P→(∀ z w,P z→Rp K F w z→Q w H)→r vs H Q
def tCB3 (r3:List D→(D→Prop)→Prop)(t:T3A):T3D:=fun Z δ Q=>t Z δ fun xs δ'=>r3 xs fun z=>Q z δ'
theorem bC7 {K:PySem.W.Frag}{F0 H0:Hp}{B:Option Addr}{t:T3A}{r:List V→Hp→VK→Prop}{r3:List D→(D→Prop)→Prop}(rel:CR3 K r r3){σ:St}{H:Hp}{Q:VK}(h:LD K E F0 H0 B (tCB3 r3 t) σ H Q):tCB r (LA K E F0 H0 B t) σ H Q:=by
 obtain⟨δ,F,Z,P,L,z,w,q⟩:=h
 exact⟨δ,F,Z,_,L,z,w,fun xs δ' vs F' H' p L' s rs=>rel F' H' xs vs Q _ L'.fh rs p fun zz ww pz rz=>q zz δ' ww F' H' pz L' s rz⟩
theorem am7 {x:Str}{p:Pos}{id:String}{r:List V→Hp→VK→Prop}{r3:List D→(D→Prop)→Prop}{t:T3A}(hc:ai5 X (.builtin id) r)(rel:CR3 X.K r r3)(hg:Gl X x)(hm:X.mg x=none)(hv:bootBuiltins x=some (.builtin id))(ha:A3 X E (e::es) t)(hn:x≠"__name__":=by decide)(hdb:(x == ("__debug__" : Str))=false:=by decide)
  (he:starEach (e::es) X.env=(false,eval e X.env)::starEach es X.env:=by rfl) (hpl:(backTo pos (starEach es X.env)).any (·.1)=false:=by rfl):D3 X E (.Call (.Name x p) (e::es) [] pos) (tCB3 r3 t) :=
 ⟨fun F0 H0 B=>ac4 (as8 hc hg hm hv (ha.h F0 H0 B) hn hdb he hpl) fun _ _ _ h=>bC7 rel h⟩
theorem aV4 {x:Str}{p:Pos}{id:String}{r:List V→Hp→VK→Prop}{r3:List D→(D→Prop)→Prop}{t:T3A}(hc:ai5 X (.type id) r)(rel:CR3 X.K r r3)(hg:Gl X x)(hm:X.mg x=none)(hv:bootBuiltins x=some (.type id))(ha:A3 X E (e::es) t)(hn:x≠"__name__":=by decide)(hdb:(x == ("__debug__" : Str))=false:=by decide)
  (he:starEach (e::es) X.env=(false,eval e X.env)::starEach es X.env:=by rfl) (hpl:(backTo pos (starEach es X.env)).any (·.1)=false:=by rfl):D3 X E (.Call (.Name x p) (e::es) [] pos) (tCB3 r3 t) :=
 ⟨fun F0 H0 B=>ac4 (aR0 hc hg hm hv (ha.h F0 H0 B) hn hdb he hpl) fun _ _ _ h=>bC7 rel h⟩
def rAbs:List D→(D→Prop)→Prop:=fun xs P=>match xs with
 | [.int i]=>P (.int (if i < 0 then -i else i))
 | _=>False
theorem bv9 {xs:List D}{P:D→Prop}(h:rAbs xs P):∃ i,xs=[.int i]∧P (.int (if i < 0 then -i else i)):=by
 unfold rAbs at h
 split at h
 ·exact⟨_,rfl,h⟩
 ·exact h.elim
theorem aV5 {K:PySem.W.Frag}:CR3 K (fun xs H Q=>∃ i,xs=[.int i]∧Q (.int (if i < 0 then -i else i)) H) rAbs:=by
 intro F H xs vs Q P fh rs h q
 obtain⟨i,rfl,p⟩:=bv9 h
 obtain⟨v,rfl,r⟩:=rs.inv1
 exact⟨i,by rw [r.inv_int],q _ _ p (.int _)⟩
def rInt:List D→(D→Prop)→Prop:=fun xs P=>match xs with
 | [.int i]=>P (.int i)
 | [.bl k]=>P (.int (if k then 1 else 0))
 | _=>False
theorem bn8 {K:PySem.W.Frag}:CR3 K (fun xs H Q=>(∃ i,xs=[.int i]∧Q (.int i) H)∨∃ k,xs=[.bl k]∧Q (.int (if k then 1 else 0)) H) rInt:=by
 intro F H xs vs Q P fh rs h q
 cases rs with
 | nil=>exact h.elim
 | cons r rs =>
  cases rs with
  | cons r2 rs=>cases r <;> exact h.elim
  | nil=>cases r <;> first | exact h.elim | exact .inl ⟨_,rfl,q _ _ h (.int _)⟩ | exact .inr ⟨_,rfl,q _ _ h (.int _)⟩
def rLen:List D→(D→Prop)→Prop:=fun xs P=>match xs with
 | [.lst ys]=>P (.int ys.length)
 | [.tup ys]=>P (.int ys.length)
 | [.scr ys]=>P (.int ys.length)
 | _=>False
theorem aK9 {K:PySem.W.Frag}:CR3 K (fun xs H Q=>∃ p ys,xs=[.ref p]∧(SqL K H p ys∨SqT K H p ys)∧Q (.int ys.length) H) rLen:=by
 intro F H xs vs Q P fh rs h q
 cases rs with
 | nil=>exact h.elim
 | cons r rs =>
  cases rs with
  | cons r2 rs=>cases r <;> exact h.elim
  | nil =>
   cases r with
   | lst hs rr=>exact⟨_,_,rfl,.inl (SqL.of (fh _ _ hs)),q _ _ h (by rw [rr.len];exact .int _)⟩
   | tup hs rr=>exact⟨_,_,rfl,.inr (Fr.ak6 fh hs),q _ _ h (by rw [rr.len];exact .int _)⟩
   | scr hs=>exact⟨_,_,rfl,.inl (fh.seq hs),q _ _ h (by rw [length_map];exact .int _)⟩
   | _=>exact h.elim
def bC8 (i:Nat):T3D:=fun Z δ Q=>match gl δ i with
 | some xs=>Q (.int xs.length) δ
 | none=>False
theorem ag7 (i:Nat){x:Str}{p p2:Pos}(hg:Gl X "len")(hm:X.mg "len"=none)(hN:X.N[i]?=some x:=by rfl)(hv:Vis X.env.scope x:=by first | exact Or.inl rfl | exact Or.inr (Or.inl rfl) | exact Or.inr (Or.inr rfl))(hd:(x == ("__debug__" : Str))=false:=by decide)
  (hcd:(x == ("__classdict__" : Str))=false:=by decide):D3 X E (.Call (.Name "len" p2) [.Name x p] [] pos) (bC8 i) :=
 ⟨fun F0 H0 B=>ac4 (as8 ai8 hg hm PySem.boot_len (ar8 (ae3 (pos:=p) hN hv hd hcd) aK1)) fun σ H Q hh=>ex4 hh fun δ F Z P L z w q=>by
  unfold bC8 at w
  cases e0:L3.gl δ i with
  | none=>rw [e0] at w;exact w.elim
  | some xs =>
   rw [e0] at w
   obtain⟨a,vs,e1,sq,rs⟩:=L.gl e0
   exact⟨.ref a,e1,a,vs,rfl,.inl sq,q _ δ _ F H w L (Same.refl _) (by rw [rs.len];exact .int _)⟩⟩
end
section
variable {X:Cx}{E:XK}{e a b c o:Expr}{es:List Expr}{pos:Pos}{st:Stmt}{rest:List Stmt}
def tNx:T3S:=fun _ En δ=>En.nx δ
def tSq (t u:T3S):T3S:=fun Z En δ=>t Z { En with nx:=fun δ'=>u Z En δ' } δ
theorem ah7:B3 X E [] tNx:=⟨fun F0 H0 B=>bd1 bF1 fun Dn σ H hh=>ex4 hh fun δ F Z En L z w ok=>ok.nx σ δ F H w L (Same.refl _)⟩
theorem aa9 {t:T3S}(h:S3 X E st t):B3 X E [st] t:=⟨fun F0 H0 B=>bF2 (h.h F0 H0 B)⟩
theorem aa5 {t u:T3S}(h:S3 X E st t)(k:B3 X E rest u):B3 X E (st::rest) (tSq t u) :=
 ⟨fun F0 H0 B=>bd1 (bu2 (h.h F0 H0 B) (k.h F0 H0 B)) fun Dn σ H hh=>ex4 hh fun δ F Z En L z w ok =>
  ⟨δ,F,Z,_,L,z,w,fun σ' δ' F' H' p L' s=>⟨δ',F',Z,En,L',z,p,ok.up s⟩,ok.rt,ok.bk,ok.ct⟩⟩
def tSt (i:Nat)(t:T3E):T3S:=fun Z En δ=>t Z δ fun r δ'=>En.nx (δ'.set i r.sl)
theorem ab8 (i:Nat){x:Str}{pos':Pos}{t:T3E}(hN:X.N.Nodup)(hi:X.N[i]?=some x)(hx:Loc X.env.scope x)(he:E3 X E e t)(hs:swapsWith e (some (.Name x pos')) pos.line X.env=pure false:=by rfl)(hf:X.fn x=true∨X.env.scope.names.lookup x=some .local:=by first | exact .inl rfl | exact .inr rfl | assumption) :
  S3 X E (.Assign [.Name x pos'] e pos) (tSt i t) :=
 ⟨fun F0 H0 B=>af8 (bP0 hN hi hx (he.h F0 H0 B) hs hf) fun Dn σ H hh=>ex4 hh fun δ F Z En L z w ok=>⟨δ,F,Z,_,L,z,w,fun r δ' v F' H' p L' s k=>ok.nx _ _ F' H' p (L'.setR k) s⟩⟩
def tRt (t:T3E):T3S:=fun Z En δ=>t Z δ fun r δ'=>En.rt r δ'
theorem ac3 {t:T3E}(he:E3 X E e t):S3 X E (.Return (some e) pos) (tRt t) :=
 ⟨fun F0 H0 B=>af8 (bO7 (he.h F0 H0 B)) fun Dn σ H hh=>ex4 hh fun δ F Z En L z w ok=>⟨δ,F,Z,_,L,z,w,fun r δ' v F' H' p L' s k=>ok.rt r v σ δ' F' H' p L' s k⟩⟩
def tEx (t:T3E):T3S:=fun Z En δ=>t Z δ fun _ δ'=>En.nx δ'
theorem bn9 {t:T3E}(he:E3 X E e t)(hs:swapsWith e none pos.line X.env=pure false:=by rfl):S3 X E (.Expr e pos) (tEx t) :=
 ⟨fun F0 H0 B=>af8 (bc2 (he.h F0 H0 B) hs) fun Dn σ H hh=>ex4 hh fun δ F Z En L z w ok=>⟨δ,F,Z,_,L,z,w,fun r δ' v F' H' p L' s k=>ok.nx σ δ' F' H' p L' s⟩⟩
def tIf3 (c:T3T)(t u:T3S):T3S:=fun Z En δ=>c Z δ fun k δ'=>Br k (t Z En δ') (u Z En δ')
theorem s_if {A' B':List Stmt}{tc:T3T}{t u:T3S}(hc:C3 X E c tc)(ha:B3 X E A' t)(hb:B3 X E B' u):S3 X E (.If c A' B' pos) (tIf3 tc t u) :=
 ⟨fun F0 H0 B=>af8 (bX0 (hc.h F0 H0 B) (ha.h F0 H0 B) (hb.h F0 H0 B)) fun Dn σ H hh=>ex4 hh fun δ F Z En L z w ok=>⟨δ,F,Z,_,L,z,w,fun k δ' F' H' p L' s=>by
  cases k with
  | true=>rw [if_pos rfl];exact⟨δ',F',Z,En,L',z,p,ok.up s⟩
  | false=>rw [if_neg Bool.false_ne_true];exact⟨δ',F',Z,En,L',z,p,ok.up s⟩⟩⟩
def tWh (c:T3T)(tb:T3S):T3S:=fun Z En δ=>∃ P:Nat→List Sl→Prop,(∃ m,P m δ)∧∀ m δ,P m δ →
 c Z δ fun k δ'=>Br k (tb Z { En with nx:=fun δ2=>∃ m',m' < m∧P m' δ2,ct:=fun δ2=>∃ m',m' < m∧P m' δ2,bk:=En.nx } δ') (En.nx δ')
theorem al0 {body:List Stmt}{tc:T3T}{tb:T3S}(hp:PassesOwn (model X.prog X.w) X.A X.env X.xe)(hc:C3 X E c tc)(hb:B3 X E body tb):S3 X E (.While c body [] pos) (tWh tc tb) :=
 ⟨fun F0 H0 B=>af8 (bu4 hp (hc.h F0 H0 B) (hb.h F0 H0 B)) fun Dn σ H hh=>ex4 hh fun δ F Z En L z w ok=>by
  obtain⟨P,⟨m0,p0⟩,turn⟩:=w
  refine⟨fun m σ H=>∃ δ F1,Lk X.K F0 H0 B σ δ F1 H∧Same F F1∧P m δ,⟨m0,δ,F,L,Same.refl _,p0⟩,?_⟩
  rintro m σ1 H1 ⟨δ1,F1,L1,s1,p1⟩
  refine⟨δ1,F1,Z,_,L1,z,turn m δ1 p1,fun k δ2 F2 H2 p2 L2 s2=>?_⟩
  cases k with
  | true =>
   rw [if_pos rfl]
   refine⟨fun σ' H'=>∃ δ' F' m',m' < m∧Lk X.K F0 H0 B σ' δ' F' H'∧Same F F'∧P m' δ',?_,δ2,F2,Z,_,L2,z,p2,?_⟩
   ·rintro σ' H' ⟨δ',F',m',hm,L',s',p'⟩
    exact⟨m',hm,δ',F',L',s',p'⟩
   ·exact⟨fun σ' δ' F' H' ⟨m',hm,p'⟩ L' s'=>⟨δ',F',m',hm,L',(s1.trans s2).trans s',p'⟩,(ok.up (s1.trans s2)).rt,(ok.up (s1.trans s2)).nx,fun σ' δ' F' H' ⟨m',hm,p'⟩ L' s'=>⟨δ',F',m',hm,L',(s1.trans s2).trans s',p'⟩⟩
  | false =>
   rw [if_neg Bool.false_ne_true]
   exact ok.nx _ _ _ _ p2 L2 (s1.trans s2)⟩
abbrev T3G:=D→List Sl→(List Sl→Prop)→Prop
abbrev T3Gs:=List D→List Sl→(List Sl→Prop)→Prop
def LG (K:PySem.W.Frag)(F0 H0:Hp)(B:Option Addr)(g:T3G):TG:=fun v σ H Q=>∃ δ F x P,Lk K F0 H0 B σ δ F H∧Rp K F v x∧g x δ P∧∀ σ' δ' F' H',P δ'→Lk K F0 H0 B σ' δ' F' H'→Same F F'→Q σ' H'
def LGs (K:PySem.W.Frag)(F0 H0:Hp)(B:Option Addr)(g:T3Gs):TGs:=fun vs σ H Q=>∃ δ F xs P,Lk K F0 H0 B σ δ F H∧Rps K F vs xs∧g xs δ P∧∀ σ' δ' F' H',P δ'→Lk K F0 H0 B σ' δ' F' H'→Same F F'→Q σ' H'
structure G3 (X:Cx) (tg:Expr) (g:T3G):Prop where
 h:∀ F0 H0 B,PG X tg (LG X.K F0 H0 B g)
structure Gs3 (X:Cx) (tgs:List Expr) (g:T3Gs):Prop where
 h:∀ F0 H0 B,PGs X tgs (LGs X.K F0 H0 B g)
theorem aV6 {tg:Expr}{t t':TG}(h:PG X tg t)(i:∀ v σ H Q,t' v σ H Q→t v σ H Q):PG X tg t':=fun pins s σ H v u Q I r w=>h pins s σ H v u Q I r (i _ _ _ _ w)
theorem bd3 {tg:List Expr}{t t':TGs}(h:PGs X tg t)(i:∀ v σ H Q,t' v σ H Q→t v σ H Q):PGs X tg t':=fun pins s σ H v u Q I r w=>h pins s σ H v u Q I r (i _ _ _ _ w)
def gNm (i:Nat):T3G:=fun x δ Q=>Q (δ.set i (.d x))
theorem ab3 (i:Nat){x:Str}(hN:X.N.Nodup)(hi:X.N[i]?=some x)(hx:Loc X.env.scope x)(hf:X.fn x=true∨X.env.scope.names.lookup x=some .local:=by first | exact .inl rfl | exact .inr rfl | assumption):G3 X (.Name x pos) (gNm i) :=
 ⟨fun F0 H0 B=>aV6 (bF3 hN hi hx hf) fun v σ H Q hh=>ex4 hh fun δ F x P L r w q=>q _ _ F H w (L.set r) (Same.refl _)⟩
def bC9:T3Gs:=fun xs δ Q=>match xs with
 | []=>Q δ
 | _=>False
def aV7 (g:T3G)(gs:T3Gs):T3Gs:=fun xs δ Q=>match xs with
 | x::r=>g x δ fun δ'=>gs r δ' Q
 | []=>False
theorem ad9:Gs3 X [] bC9:=⟨fun F0 H0 B=>bd3 bF4 fun vs σ H Q hh=>ex4 hh fun δ F xs P L r w q=>by
 cases r with
 | nil=>exact⟨rfl,q σ δ F H w L (Same.refl _)⟩
 | cons _ _=>exact w.elim⟩
theorem ab6 {g:T3G}{gs:T3Gs}(h1:G3 X e g)(h2:Gs3 X es gs)(hs:(assignEach (e::es) X.env).map (·.2)=assign e X.env::(assignEach es X.env).map (·.2):=by rfl):Gs3 X (e::es) (aV7 g gs) :=
 ⟨fun F0 H0 B=>bd3 (bu3 (h1.h F0 H0 B) (h2.h F0 H0 B) hs) fun vs σ H Q hh=>ex4 hh fun δ F xs P L r w q=>by
  cases r with
  | nil=>exact w.elim
  | cons r1 r2=>exact⟨_,_,rfl,δ,F,_,_,L,r1,w,fun σ1 δ1 F1 H1 p1 L1 s1=>⟨δ1,F1,_,_,L1,r2.same s1,p1,fun σ2 δ2 F2 H2 p2 L2 s2=>q σ2 δ2 F2 H2 p2 L2 (s1.trans s2)⟩⟩⟩
def gTu (n:Nat)(gs:T3Gs):T3G:=fun x δ Q=>match x with
 | .tup xs=>(match beq xs.length n with
  | true=>gs xs δ Q
  | false=>False)
 | _=>False
theorem ae8 {k:Nat}{gs:T3Gs}{n:Nat}(hc:X.calm=true)(h:Gs3 X es gs)(hn:(assignEach es X.env).length=n:=by rfl)(hst:(assignEach es X.env).findIdx? (·.1)=none:=by rfl):G3 X (.Tuple es k pos) (gTu n gs) :=
 ⟨fun F0 H0 B=>aV6 (bO8 hc (h.h F0 H0 B) hn hst) fun v σ H Q hh=>ex4 hh fun δ F x P L r w q=>by
  cases r with
  | tup hs rs =>
   unfold gTu at w
   dsimp only at w
   cases e:beq _ n with
   | false=>rw [e] at w;exact w.elim
   | true =>
    rw [e] at w
    exact⟨_,_,rfl,Fr.ak6 L.fh hs,by rw [rs.len];exact eq_of_beq_eq_true e,δ,F,_,P,L,rs,w,q⟩
  | _=>exact w.elim⟩
def tAs (t:T3D)(g:T3G):T3S:=fun Z En δ=>t Z δ fun x δ'=>g x δ' En.nx
theorem aq2 {tg:Expr}{t:T3D}{g:T3G}(he:D3 X E e t)(hg:G3 X tg g)(hs:swapsWithSole [tg] e pos.line X.env=pure false:=by rfl)(hw:swappedStores [tg] e X.env=pure none:=by rfl)
  (h1:(assignEach [tg] X.env).map (·.2)=[assign tg X.env]:=by rfl):S3 X E (.Assign [tg] e pos) (tAs t g) :=
 ⟨fun F0 H0 B=>af8 (bl4 (he.h F0 H0 B) (hg.h F0 H0 B) hs hw h1) fun Dn σ H hh=>ex4 hh fun δ F Z En L z w ok=>⟨δ,F,Z,_,L,z,w,fun x δ' v F' H' p L' s r =>
  ⟨δ',F',x,_,L',r,p,fun σ2 δ2 F2 H2 p2 L2 s2=>ok.nx σ2 δ2 F2 H2 p2 L2 (s.trans s2)⟩⟩⟩
def tPr (i j:Nat)(t:T3A):T3S:=fun Z En δ=>t Z δ fun xs δ'=>match xs with
 | [x,y]=>En.nx ((δ'.set i (.d x)).set j (.d y))
 | _=>False
theorem ar4 (i j:Nat){x y:Str}{t:T3A}{px py pt:Pos}{kt k2 pt2}(hc:X.calm=true)(hN:X.N.Nodup)(hi:X.N[i]?=some x)(hj:X.N[j]?=some y)(hij:i≠j)
  (hx:X.env.scope.names.lookup x=some .local) (hy:X.env.scope.names.lookup y=some .local) (ha:A3 X E [a,b] t)
  (hw:swappedStores [.Tuple [.Name x px,.Name y py] kt pt] (.Tuple [a,b] k2 pt2) X.env=pure (some [x,y]):=by rfl)
  (hs:swapsWithSole [.Tuple [.Name x px,.Name y py] kt pt] (.Tuple [a,b] k2 pt2) pos.line X.env=pure false:=by rfl) :
  S3 X E (.Assign [.Tuple [.Name x px,.Name y py] kt pt] (.Tuple [a,b] k2 pt2) pos) (tPr i j t) :=
 ⟨fun F0 H0 B=>af8 (bP1 hc hN hi hj hij hx hy (ha.h F0 H0 B) hw hs) fun Dn σ H hh=>ex4 hh fun δ F Z En L z w ok=>⟨δ,F,Z,_,L,z,w,fun xs δ' vs F' H' p L' s r=>by
  cases r with
  | nil=>exact p.elim
  | cons r1 r =>
   cases r with
   | nil=>exact p.elim
   | cons r2 r =>
    cases r with
    | cons _ _=>exact p.elim
    | nil=>exact⟨_,_,rfl,ok.nx _ _ F' H' p ((L'.set r1).set r2) s⟩⟩⟩
def tAg (g:Int→Int→Int)(i:Nat)(t:T3D):T3S:=fun Z En δ=>match δ[i]? with
 | some (.d (.int u))=>t Z δ fun y δ'=>(match y with
  | .int v=>En.nx (δ'.set i (.d (.int (g u v))))
  | _=>False)
 | _=>False
abbrev T3I:=Zk→List Sl→(List D→List Sl→Prop)→Prop
structure ItOk (K:PySem.W.Frag) (F1:Hp) (J:It) (xs:List D):Prop where
 go:∀ i F H,Same F1 F→Same F H→i < xs.length→J.go i H
 yld:∀ i F H x H',Same F1 F→Same F H→i < xs.length→J.yld i H x H'→∃ F' d,Same F F'∧Same F' H'∧Same H H'∧(∀ a,H a≠none→F' a=F a)∧xs[i]?=some d∧Rp K F' x d
 stop:∀ F H,Same F1 F→Same F H→J.stop xs.length H
def LI (K:PySem.W.Frag)(E:XK)(F0 H0:Hp)(B:Option Addr)(t:T3I):TI:=fun σ H R=>∃ δ F Z P,Lk K F0 H0 B σ δ F H∧ZOk K E F0 H0 B Z∧t Z δ P∧∀ xs δ' F' H' J,P xs δ'→Lk K F0 H0 B σ δ' F' H'→Same F F'→ItOk K F' J xs→R J H'
structure I3 (X:Cx) (E:XK) (tg iter:Expr) (t:T3I):Prop where
 h:∀ F0 H0 B,PI X tg iter (LI X.K E F0 H0 B t)
theorem at5 {tg iter:Expr}{t t':TI}(h:PI X tg iter t)(i:∀ σ H R,t' σ H R→t σ H R):PI X tg iter t':=fun pins s σ H R I w=>h pins s σ H R I (i _ _ _ w)
def forL (g:T3G)(tb:T3S)(Z:Zk)(En:En):List D→List Sl→Prop
 | [],δ=>En.nx δ
 | x::xs,δ=>g x δ fun δ1=>tb Z { nx:=fun δ2=>forL g tb Z En xs δ2,ct:=fun δ2=>forL g tb Z En xs δ2,bk:=En.nx,rt:=En.rt } δ1
def tFr (ti:T3I)(g:T3G)(tb:T3S):T3S:=fun Z En δ=>ti Z δ fun xs δ'=>forL g tb Z En xs δ'
theorem af5 {tg iter:Expr}{body:List Stmt}{ti:T3I}{g:T3G}{tb:T3S}(hp:PassesOwn (model X.prog X.w) X.A X.env X.xe)(hc:X.calm=true)(hi:I3 X E tg iter ti)(hg:G3 X tg g)(hb:B3 X E body tb)
  (hs:∀ x,foldedSetIterable iter X.env x=pure x:=by intro _;rfl):S3 X E (.For tg iter body [] pos) (tFr ti g tb) :=
 ⟨fun F0 H0 B=>af8 (bP4 hp hc (hi.h F0 H0 B) (hg.h F0 H0 B) (hb.h F0 H0 B) hs) fun Dn σ H hh=>ex4 hh fun δ F Z En L z w ok=>by
  refine⟨δ,F,Z,_,L,z,w,fun xs δ1 F1 H1 J p1 L1 s1 it=>?_⟩
  refine⟨fun i m σ H=>m=xs.length - i∧i≤xs.length∧∃ δ F,Lk X.K F0 H0 B σ δ F H∧Same F1 F∧forL g tb Z En (xs.drop i) δ,⟨xs.length,by simp,zero_le _,δ1,F1,L1,Same.refl _,p1⟩,?_⟩
  rintro i m σ2 H2 ⟨rfl,hi2,δ2,F2,L2,s2,p2⟩
  by_cases lt:i < xs.length
  ·refine .inr ⟨it.go i F2 H2 s2 L2.fh lt,fun σ' H'=>∃ δ' F',Lk X.K F0 H0 B σ' δ' F' H'∧Same F1 F'∧forL g tb Z En (xs.drop (i+1)) δ',?_,fun x H3 y=>?_⟩
   ·rintro σ' H' ⟨δ',F',L',s',p'⟩
    exact⟨xs.length - (i+1),by omega,rfl,lt,δ',F',L',s',p'⟩
   ·obtain⟨F3,d,a1,a2,a3,a4,a5,a6⟩:=it.yld i F2 H2 x H3 s2 L2.fh lt y
    have L3:=L2.grow a1 a2 a3 a4
    have ed:xs.drop i=d::xs.drop (i+1):=by
     rw [drop_eq_getElem_cons lt]
     rw [(List.getElem?_eq_some_iff.mp a5).2]
    rw [ed] at p2
    refine⟨δ2,F3,d,_,L3,a6,p2,fun σ4 δ4 F4 H4 p4 L4 s4=>⟨δ4,F4,Z,_,L4,z,p4,?_⟩⟩
    have sf:Same F F4:=s1.trans (s2.trans (a1.trans s4))
    have s14:Same F1 F4:=s2.trans (a1.trans s4)
    exact⟨fun σ5 δ5 F5 H5 p5 L5 s5=>⟨δ5,F5,L5,s14.trans s5,p5⟩,(ok.up sf).rt,(ok.up sf).nx,fun σ5 δ5 F5 H5 p5 L5 s5=>⟨δ5,F5,L5,s14.trans s5,p5⟩⟩
  ·have e:i=xs.length:=by omega
   subst e
   rw [drop_length] at p2
   exact .inl ⟨it.stop F2 H2 s2 L2.fh,ok.nx _ _ _ _ p2 L2 (s1.trans s2)⟩⟩
def tIL (t:T3D):T3I:=fun Z δ Q=>t Z δ fun x δ'=>match x with
 | .lst xs=>Q xs δ'
 | _=>False
theorem af4 {tg:Expr}{t:T3D}(h:D3 X E e t):I3 X E tg e (tIL t) :=
 ⟨fun F0 H0 B=>at5 (bc3 (h.h F0 H0 B)) fun σ H R hh=>ex4 hh fun δ F Z P L z w q=>⟨δ,F,Z,_,L,z,w,fun x δ' v F' H' p L' s r=>by
  cases x with
  | lst xs =>
   obtain⟨a,us,rfl,hs,rs⟩:=r.inv_lst
   have hs':∀ {H2:Hp},Same F' H2→SqL X.K H2 _ _:=fun s2=>SqL.of (s2 _ _ hs)
   refine⟨_,rfl,⟨_,hs' L'.fh⟩,q _ δ' F' H' _ p L' s ⟨fun i F2 H2 a1 a2 lt=>?_,fun i F2 H2 y H3 a1 a2 lt yy=>?_,fun F2 H2 a1 a2=>⟨_,hs' (a1.trans a2),by rw [rs.len];exact le_refl _⟩⟩⟩
   ·obtain⟨v,hv,_⟩:=rs.at (getElem?_eq_getElem lt)
    exact⟨_,v,hs' (a1.trans a2),hv⟩
   ·obtain⟨rfl,y2⟩:=yy
    have hv:=y2 _ (hs' (a1.trans a2))
    obtain⟨d,e1,r1⟩:=rs.at' hv
    exact⟨F2,d,Same.refl _,a2,Same.refl _,fun _ _=>rfl,e1,r1.same a1⟩
  | _=>exact p.elim⟩⟩
def rngD (lo:Int)(n:Nat):List D:=(List.range n).map fun k:Nat=>D.int (lo+(k:Int))
theorem ah8 (lo:Int)(n:Nat):(rngD lo n).length=n:=by simp [rngD]
theorem bd4 {lo:Int}{n i:Nat}(h:i < n):(rngD lo n)[i]?=some (.int (lo+(i:Int))):=by simp [rngD,h]
theorem aV8 {K:PySem.W.Frag}{F:Hp}{lo:Int}{n:Nat}:ItOk K F (Itr lo n) (rngD lo n) :=
 ⟨fun i F2 H2 _ _ lt=>by rw [ah8] at lt;exact lt,fun i F2 H2 y H3 a1 a2 lt yy=>by
  rw [ah8] at lt
  obtain⟨rfl,rfl⟩:=yy
  exact⟨F2,_,Same.refl _,a2,Same.refl _,fun _ _=>rfl,bd4 lt,.int _⟩,fun F2 H2 _ _=>by rw [ah8];exact le_refl _⟩
def InR (i:Int):Prop:=-(2 ^ 62)≤i∧i < 2 ^ 62
def tIR1 (t:T3A):T3I:=fun Z δ Q=>t Z δ fun xs δ'=>match xs with
 | [.int j]=>InR j∧Q (rngD 0 j.toNat) δ'
 | _=>False
def tIR2 (t:T3A):T3I:=fun Z δ Q=>t Z δ fun xs δ'=>match xs with
 | [.int i,.int j]=>(InR i∧InR j)∧Q (rngD i (j - i).toNat) δ'
 | _=>False
theorem am8 {tg:Expr}{t:T3A}{p:Pos}(hg:Gl X "range")(hm:X.mg "range"=none)(ha:A3 X E [a] t)(hs:starEach [a] X.env=[(false,eval a X.env)]:=by rfl):I3 X E tg (.Call (.Name "range" p) [a] [] pos) (tIR1 t) :=
 ⟨fun F0 H0 B=>at5 (bl6 hg hm (ha.h F0 H0 B) hs) fun σ H R hh=>ex4 hh fun δ F Z P L z w q=>⟨δ,F,Z,_,L,z,w,fun xs δ' vs F' H' p L' s r=>by
  obtain⟨j,rfl,k⟩:=m1I p
  obtain⟨v,rfl,r0⟩:=r.inv1
  exact⟨j,by rw [r0.inv_int],k.1.1,k.1.2,q _ δ' F' H' _ k.2 L' s aV8⟩⟩⟩
theorem bw0 {tg:Expr}{t:T3A}{p:Pos}(hg:Gl X "range")(hm:X.mg "range"=none)(ha:A3 X E [a,b] t)(hs:starEach [a,b] X.env=[(false,eval a X.env),(false,eval b X.env)]:=by rfl)(hs2:starEach [b] X.env=[(false,eval b X.env)]:=by rfl):I3 X E tg (.Call (.Name "range" p) [a,b] [] pos) (tIR2 t) :=
 ⟨fun F0 H0 B=>at5 (bl7 hg hm (ha.h F0 H0 B) hs hs2) fun σ H R hh=>ex4 hh fun δ F Z P L z w q=>⟨δ,F,Z,_,L,z,w,fun xs δ' vs F' H' p L' s r=>by
  obtain⟨i,j,rfl,k⟩:=m2I p
  obtain⟨v,u,rfl,r1,r2⟩:=r.inv2
  exact⟨i,j,by rw [r1.inv_int,r2.inv_int],⟨k.1.1.1,k.1.1.2,k.1.2.1,k.1.2.2⟩,q _ δ' F' H' _ k.2 L' s aV8⟩⟩⟩
end
section
variable {K:PySem.W.Frag}{F0 H0 F H F' H':Hp}{B:Option Addr}{σ:St}{δ:List Sl}
def Sl.ob:Sl→Option Ob
 | .own o=>some o
 | .bor o=>some o
 | _=>none
def Sl.put (s:Sl)(o:Ob):Sl:=match s with
 | .own _=>.own o
 | .bor _=>.bor o
 | x=>x
theorem Lk.ob {i:Nat}{s:Sl}{o:Ob}(L:Lk K F0 H0 B σ δ F H)(e:δ[i]?=some s)(h:s.ob=some o):∃ a,σ[i]?=some (some (.ref a))∧F a=none∧OwnOk K F H a o:=by
 have q:=L.sl i s e
 cases s with
 | own o'=>cases h;obtain⟨a,e1,f,_,w⟩:=q;exact⟨a,e1,f,w⟩
 | bor o'=>cases h;obtain⟨a,e1,_,f,w⟩:=q;exact⟨a,e1,f,w⟩
 | un=>cases h
 | d x=>cases h
theorem Lk.mutS {i:Nat}{s:Sl}{o o':Ob}{a:Addr}{ho:HO}(L:Lk K F0 H0 B σ δ F H)(e:δ[i]?=some s)(h:s.ob=some o)(ea:σ[i]?=some (some (.ref a)))(w:OwnOk K F (upd H a ho) a o') :
  Lk K F0 H0 B σ (δ.set i (s.put o')) F (upd H a ho):=by
 cases s with
 | own o1=>exact L.mut e ea w
 | bor o1=>exact L.mutB e ea w
 | un=>cases h
 | d x=>cases h
def go (δ:List Sl)(i:Nat):Option Ob:=match δ[i]? with
 | some s=>s.ob
 | none=>none
def upS (f:Sl→Sl):List Sl→Nat→List Sl
 | [],_=>[]
 | s::l,0=>f s::l
 | s::l,n+1=>s::upS f l n
def pt (δ:List Sl)(i:Nat)(o:Ob):List Sl:=upS (fun s=>s.put o) δ i
def upM (f:Sl→Sl)(δ:List Sl)(i:Nat):List Sl:=match δ[i]? with
 | some s=>δ.set i (f s)
 | none=>δ
theorem bo0 (f:Sl→Sl):∀ (δ:List Sl) (i:Nat),upS f δ i=upM f δ i
 | [],_=>rfl
 | s::l,0=>rfl
 | s::l,n+1=>by
  show s::upS f l n=_
  rw [bo0 f l n]
  unfold upM
  rw [getElem?_cons_succ]
  cases l[n]? <;> rfl
theorem bi4 (δ:List Sl)(i:Nat)(o:Ob):pt δ i o=match δ[i]? with
 | some s=>δ.set i (s.put o)
 | none=>δ:=bo0 _ δ i
theorem Lk.go {i:Nat}{o:Ob}(L:Lk K F0 H0 B σ δ F H)(e:go δ i=some o):∃ a,σ[i]?=some (some (.ref a))∧F a=none∧OwnOk K F H a o ∧
  ∀ o' ho,OwnOk K F (upd H a ho) a o'→Lk K F0 H0 B σ (pt δ i o') F (upd H a ho):=by
 unfold L3.go at e
 cases q:δ[i]? with
 | none=>rw [q] at e;cases e
 | some s =>
  rw [q] at e
  obtain⟨a,e1,f,w⟩:=L.ob q e
  refine⟨a,e1,f,w,fun o' ho w'=>?_⟩
  rw [bi4]
  rw [q]
  exact L.mutS q e e1 w'
end
section
variable {X:Cx}{E:XK}{e a b c o:Expr}{es:List Expr}{pos:Pos}
def tAp (i:Nat)(t:T3D):T3S:=fun Z En δ=>match go δ i with
 | some (.lst _)=>t Z δ fun x δ'=>(match go δ' i with
  | some (.lst xs)=>xs.length≤1000000∧En.nx (pt δ' i (.lst (xs++[x])))
  | _=>False)
 | _=>False
theorem ag4 (i:Nat){x:Str}{p apos cpos:Pos}{t:T3D}(he:D3 X E e t)(hN:X.N[i]?=some x:=by rfl)(hv:Vis X.env.scope x:=by first | exact Or.inl rfl | exact Or.inr (Or.inl rfl) | exact Or.inr (Or.inr rfl))
  (hd:(x == ("__debug__" : Str))=false:=by decide) (hcd:(x == ("__classdict__" : Str))=false:=by decide) (hs:starEach [e] X.env=(false,eval e X.env)::starEach [] X.env:=by rfl)
  (hsw:swapsWith (.Call (.Attribute (.Name x p) "append" apos) [e] [] cpos) none pos.line X.env=pure false:=by rfl)
  (hfew:((backTo cpos (starEach [e] X.env)).all (fun x=>!x.1) && (backToKw cpos (keywordEach [] X.env)).all (fun x=>x.1.isSome)
   && decide ([e].length+([]:List Keyword).length+(if ([]:List Keyword).isEmpty then 0 else 1) < 30))=true:=by rfl) (hline:(apos.endLine == cpos.line)=true:=by rfl) :
  S3 X E (.Expr (.Call (.Attribute (.Name x p) "append" apos) [e] [] cpos) pos) (tAp i t) :=
 ⟨fun F0 H0 B=>af8 (bc2 (bY3 PySem.F.plainAttrs_list PySem.F.slot_list_append PySem.F.type_list_append aB8 (ae3 (pos:=p) hN hv hd hcd) (ar8 (he.h F0 H0 B) aK1 hs) rfl hfew hline hs rfl) hsw) fun Dn σ H hh=>ex4 hh fun δ F Z En L z w ok=>by
  unfold tAp at w
  cases e0:L3.go δ i with
  | none=>rw [e0] at w;exact w.elim
  | some ob =>
   rw [e0] at w
   cases ob with
   | lst xs0 =>
    obtain⟨a,e1,f1,⟨vs0,h1,r1⟩,_⟩:=L.go e0
    refine⟨_,e1,.inl ⟨rfl,_,SqL.of h1⟩,δ,F,Z,_,L,z,w,fun y δ' v F' H' p' L' s r=>?_⟩
    cases e2:L3.go δ' i with
    | none=>rw [e2] at p';exact p'.elim
    | some ob2 =>
     rw [e2] at p'
     cases ob2 with
     | lst xs =>
      obtain⟨a',e3,f3,⟨vs,h3,r3⟩,up⟩:=L'.go e2
      rw [e1] at e3
      cases e3
      refine⟨_,_,_,rfl,rfl,h3,by rw [r3.len];exact af7 p'.1,?_⟩
      exact ok.nx _ _ F' _ p'.2 (up _ _ ⟨_,ab5,r3.append (.one r)⟩) s
     | _=>exact p'.elim
   | _=>exact w.elim⟩
def tSi (i:Nat)(tk tv:T3D):T3S:=fun Z En δ=>tv Z δ fun x δ1=>match go δ1 i with
 | some (.lst _)=>tk Z δ1 fun y δ2=>(match y,go δ2 i with
  | .int k,some (.lst xs)=>∃ j,ixN xs.length k=some j∧En.nx (pt δ2 i (.lst (xs.set j x)))
  | _,_=>False)
 | _=>False
theorem al1 (i:Nat){x:Str}{p tpos:Pos}{tk tv:T3D}(hk:D3 X E b tk)(hv':D3 X E e tv)(hN:X.N[i]?=some x:=by rfl)(hv:Vis X.env.scope x:=by first | exact Or.inl rfl | exact Or.inr (Or.inl rfl) | exact Or.inr (Or.inr rfl))
  (hd:(x == ("__debug__" : Str))=false:=by decide) (hcd:(x == ("__classdict__" : Str))=false:=by decide)
  (ha:∀ v,assign (.Subscript (.Name x p) b tpos) X.env v=(do
   let ov ← holding [v] (eval (.Name x p) X.env)
   let iv ← holding [v,ov] (eval b X.env)
   standAt tpos
   holding [v,ov,iv] (setItem ov iv v)
   release [v,ov,iv] []):=by intro _;rfl)
  (hs:swapsWithSole [.Subscript (.Name x p) b tpos] e pos.line X.env=pure false:=by rfl) (hw:swappedStores [.Subscript (.Name x p) b tpos] e X.env=pure none:=by rfl) :
  S3 X E (.Assign [.Subscript (.Name x p) b tpos] e pos) (tSi i tk tv) :=
 ⟨fun F0 H0 B=>af8 (bl4 (hv'.h F0 H0 B) (bO9 (ae3 (pos:=p) hN hv hd hcd) (hk.h F0 H0 B) set_list ha) hs hw rfl) fun Dn σ H hh=>ex4 hh fun δ F Z En L z w ok =>
  ⟨δ,F,Z,_,L,z,w,fun y δ1 v F1 H1 p1 L1 s1 r1=>by
   cases e0:L3.go δ1 i with
   | none=>rw [e0] at p1;exact p1.elim
   | some ob =>
    rw [e0] at p1
    cases ob with
    | lst xs0 =>
     obtain⟨a,e1,f1,⟨vs0,h1,_⟩,_⟩:=L1.go e0
     refine⟨_,e1,δ1,F1,Z,_,L1,z,p1,fun kk δ2 u F2 H2 p2 L2 s2 r2=>?_⟩
     cases e2:L3.go δ2 i with
     | none=>rw [e2] at p2;cases r2 <;> exact p2.elim
     | some ob2 =>
      rw [e2] at p2
      cases r2 with
      | int k =>
       cases ob2 with
       | lst xs =>
        obtain⟨j,hj,pj⟩:=p2
        obtain⟨a',e3,f3,⟨vs,h3,r3⟩,up⟩:=L2.go e2
        rw [e1] at e3
        cases e3
        refine⟨_,_,k,j,rfl,rfl,h3,by rw [r3.len];exact hj,?_⟩
        exact ok.nx _ _ F2 _ pj (up _ _ ⟨_,ab5,r3.set (r1.same s2) j⟩) (s1.trans s2)
       | _=>exact p2.elim
      | _=>exact p2.elim
    | _=>exact p1.elim⟩⟩
def N2 (K:PySem.W.Frag)(r:R2)(r3:D→D→(List D→Prop)→Prop):Prop:=∀ F H x y v u (Q:VK) (P:List D→Prop),Same F H→Rp K F v x→Rp K F u y→r3 x y P →
 (∀ ys vs p,P ys→Rps K F vs ys→H p=none→Q (.ref p) (upd H p (.lst vs)))→r v u H Q
def tON (r3:D→D→(List D→Prop)→Prop)(a b:T3D):T3E:=fun Z δ Q=>a Z δ fun x δ1=>b Z δ1 fun y δ2=>r3 x y fun ys=>Q (.own (.lst ys)) δ2
theorem aq3 {op:Operator}{r:R2}{r3:D→D→(List D→Prop)→Prop}{ta tb:T3D}(ho:OpR X (binaryOp op) r)(rel:N2 X.K r r3)(ha:D3 X E a ta)(hb:D3 X E b tb):E3 X E (.BinOp a op b pos) (tON r3 ta tb) :=
 ⟨fun F0 H0 B=>ac4 (bB9 ho (ha.h F0 H0 B) (hb.h F0 H0 B)) fun σ H Q hh=>ex4 hh fun δ F Z P L z w q=>⟨δ,F,Z,_,L,z,w,fun x δ1 v F1 H1 p1 L1 s1 r1=>⟨δ1,F1,Z,_,L1,z,p1,fun y δ2 u F2 H2 p2 L2 s2 r2=>by
  refine rel F2 H2 x y v u Q _ L2.fh (r1.same s2) r2 p2 fun ys vs p py rs hp=>?_
  obtain⟨L3,k3⟩:=L2.newO (ho:=.lst vs) hp (o:=.lst ys) ⟨vs,ab5,rs⟩
  exact q _ δ2 _ _ _ py L3 (s1.trans s2) k3⟩⟩⟩
def nCat:D→D→(List D→Prop)→Prop:=fun x y P=>match x,y with
 | .lst xs,.lst ys=>xs.length+ys.length≤1000000∧P (xs++ys)
 | _,_=>False
theorem bi5 {K:PySem.W.Frag}:N2 K rCat nCat:=by
 intro F H x y v u Q P fh rx ry h q
 cases rx with
 | lst hx rx =>
  cases ry with
  | lst hy ry=>exact⟨_,_,_,_,rfl,rfl,fh _ _ hx,fh _ _ hy,by rw [rx.len,ry.len];exact le_of_lt (af7 h.1),fun p hp=>q _ _ p h.2 (rx.append ry) hp⟩
  | _=>exact h.elim
 | _=>exact h.elim
theorem Rps.repl {K:PySem.W.Frag}{F:Hp}{vs:List V}{xs:List D}(r:Rps K F vs xs):∀ n:Nat,Rps K F (replicate n vs).flatten (replicate n xs).flatten
 | 0=>.nil
 | n+1=>r.append (Rps.repl r n)
def nRep:D→D→(List D→Prop)→Prop:=fun x y P=>match x,y with
 | .lst xs,.int k=>(0≤k∧k≤100000∧xs.length≤10)∧P (replicate k.toNat xs).flatten
 | _,_=>False
theorem az0 {K:PySem.W.Frag}:N2 K rRep nRep:=by
 intro F H x y v u Q P fh rx ry h q
 cases rx with
 | lst hx rx =>
  cases ry with
  | int k =>
   obtain⟨⟨h1,h2,h3⟩,p⟩:=h
   refine⟨_,_,_,rfl,rfl,fh _ _ hx,by omega,by omega,?_,fun a ha=>q _ _ a p (rx.repl _) ha⟩
   rw [rx.len]
   have:sizeLine=16777216:=sizeLine_eq
   have h4:k.toNat≤100000:=by omega
   have:=mul_le_mul h3 h4
   omega
  | _=>exact h.elim
 | _=>exact h.elim
def tCN (r3:List D→(List D→Prop)→Prop)(t:T3A):T3E:=fun Z δ Q=>t Z δ fun xs δ'=>r3 xs fun ys=>Q (.own (.lst ys)) δ'
def NC (K:PySem.W.Frag)(r:List V→Hp→VK→Prop)(r3:List D→(List D→Prop)→Prop):Prop:=∀ F H xs vs (Q:VK) (P:List D→Prop),Same F H→Rps K F vs xs→r3 xs P →
 (∀ ys us p,P ys→Rps K F us ys→H p=none→Q (.ref p) (upd H p (.lst us)))→r vs H Q
theorem bD0 {K:PySem.W.Frag}{F0 H0:Hp}{B:Option Addr}{t:T3A}{r:List V→Hp→VK→Prop}{r3:List D→(List D→Prop)→Prop}(rel:NC K r r3){σ:St}{H:Hp}{Q:VK}(h:LE K E F0 H0 B (tCN r3 t) σ H Q):tCB r (LA K E F0 H0 B t) σ H Q:=by
 obtain⟨δ,F,Z,P,L,z,w,q⟩:=h
 refine⟨δ,F,Z,_,L,z,w,fun xs δ' vs F' H' p L' s rs=>rel F' H' xs vs Q _ L'.fh rs p fun ys us a py ru ha=>?_⟩
 obtain⟨L3,k3⟩:=L'.newO (ho:=.lst us) ha (o:=.lst ys) ⟨us,ab5,ru⟩
 exact q _ δ' _ _ _ py L3 s k3
theorem aC4 {x:Str}{p:Pos}{id:String}{r:List V→Hp→VK→Prop}{r3:List D→(List D→Prop)→Prop}{t:T3A}(hc:ai5 X (.type id) r)(rel:NC X.K r r3)(hg:Gl X x)(hm:X.mg x=none)(hv:bootBuiltins x=some (.type id))(ha:A3 X E (e::es) t)(hn:x≠"__name__":=by decide)(hdb:(x == ("__debug__" : Str))=false:=by decide)
  (he:starEach (e::es) X.env=(false,eval e X.env)::starEach es X.env:=by rfl) (hpl:(backTo pos (starEach es X.env)).any (·.1)=false:=by rfl):E3 X E (.Call (.Name x p) (e::es) [] pos) (tCN r3 t) :=
 ⟨fun F0 H0 B=>ac4 (aR0 hc hg hm hv (ha.h F0 H0 B) hn hdb he hpl) fun _ _ _ h=>bD0 rel h⟩
def nList:List D→(List D→Prop)→Prop:=fun xs P=>match xs with
 | [.lst ys]=>P ys
 | [.tup ys]=>P ys
 | _=>False
theorem aV9 {K:PySem.W.Frag}:NC K (fun xs H Q=>∃ p ys,xs=[.ref p]∧(SqL K H p ys∨SqT K H p ys)∧∀ l,H l=none→Q (.ref l) (upd H l (.lst ys))) nList:=by
 intro F H xs vs Q P fh rs h q
 cases rs with
 | nil=>exact h.elim
 | cons r rs =>
  cases rs with
  | cons r2 rs=>cases r <;> exact h.elim
  | nil =>
   cases r with
   | lst hs rr=>exact⟨_,_,rfl,.inl (SqL.of (fh _ _ hs)),fun l hl=>q _ _ l h rr hl⟩
   | tup hs rr=>exact⟨_,_,rfl,.inr (Fr.ak6 fh hs),fun l hl=>q _ _ l h rr hl⟩
   | _=>exact h.elim
abbrev T3O:=Zk→List Sl→(Option Int→List Sl→Prop)→Prop
def LO (K:PySem.W.Frag)(E:XK)(F0 H0:Hp)(B:Option Addr)(t:T3O):TO:=fun σ H Q=>∃ δ F Z P,Lk K F0 H0 B σ δ F H∧ZOk K E F0 H0 B Z∧t Z δ P∧∀ b δ' F' H',P b δ'→Lk K F0 H0 B σ δ' F' H'→Same F F'→Q b H'
structure O3 (X:Cx) (E:XK) (e:Option Expr) (t:T3O):Prop where
 h:∀ F0 H0 B,PO X e (LO X.K E F0 H0 B t)
theorem bo1 {e:Option Expr}{t t':TO}(h:PO X e t)(i:∀ σ H Q,t' σ H Q→t σ H Q):PO X e t':=by
 intro pins s σ H Q I w
 exact h pins s σ H Q I (i _ _ _ w)
def tO0:T3O:=fun _ δ Q=>Q none δ
def tO1 (t:T3D):T3O:=fun Z δ Q=>t Z δ fun x δ'=>match x with
 | .int i=>Q (some i) δ'
 | _=>False
theorem aC5:O3 X E none tO0:=⟨fun F0 H0 B=>bo1 bG2 fun σ H Q hh=>ex4 hh fun δ F Z P L z w q=>q none δ F H w L (Same.refl _)⟩
theorem aC6 {t:T3D}(h:D3 X E e t):O3 X E (some e) (tO1 t):=⟨fun F0 H0 B=>bo1 (bG3 (h.h F0 H0 B)) fun σ H Q hh=>ex4 hh fun δ F Z P L z w q=>⟨δ,F,Z,_,L,z,w,fun x δ' v F' H' p L' s r=>by
 cases r with
 | int i=>exact⟨i,rfl,q _ δ' F' H' p L' s⟩
 | _=>exact p.elim⟩⟩
def cutD (xs:List D)(lo hi:Option Int):List D:=(xs.drop (HT.sIx xs.length 0 lo)).take (HT.sIx xs.length xs.length hi - HT.sIx xs.length 0 lo)
theorem Rps.cut {K:PySem.W.Frag}{F:Hp}{vs:List V}{xs:List D}(rs:Rps K F vs xs)(l h:Option Int):Rps K F (cutV vs l h) (cutD xs l h):=by
 unfold cutV cutD
 rw [rs.len]
 exact (rs.drop _).take _
def tSlc (t:T3D)(lo hi:T3O):T3E:=fun Z δ Q=>t Z δ fun x δ1=>lo Z δ1 fun l δ2=>hi Z δ2 fun h δ3=>match x with
 | .lst xs=>Q (.own (.lst (cutD xs l h))) δ3
 | _=>False
theorem aw3 {t:T3D}{lo hi:Option Expr}{tl th:T3O}{p2:Pos}(h:D3 X E e t)(hl:O3 X E lo tl)(hh:O3 X E hi th):E3 X E (.Subscript e (.Slice lo hi none p2) pos) (tSlc t tl th) :=
 ⟨fun F0 H0 B=>ac4 (bv0 bG4 (h.h F0 H0 B) (hl.h F0 H0 B) (hh.h F0 H0 B)) fun σ H Q hh=>ex4 hh fun δ F Z P L z w q=>⟨δ,F,Z,_,L,z,w,fun x δ1 v F1 H1 p1 L1 s1 r1 =>
  ⟨δ1,F1,Z,_,L1,z,p1,fun l δ2 F2 H2 p2 L2 s2=>⟨δ2,F2,Z,_,L2,z,p2,fun h δ3 F3 H3 p3 L3 s3=>by
   cases r1.same (s2.trans s3) with
   | lst hs rs =>
    refine⟨_,_,rfl,SqL.of (L3.fh _ _ hs),fun p hp=>?_⟩
    obtain⟨L4,k4⟩:=L3.newO (ho:=.lst _) hp (o:=.lst _) ⟨_,ab5,rs.cut l h⟩
    exact q _ δ3 _ _ _ p3 L4 ((s1.trans s2).trans s3) k4
   | _=>exact p3.elim⟩⟩⟩⟩
def ca0 (t:T3D):T3E:=fun Z δ Q=>t Z δ fun x δ1=>match x with
 | .lst xs=>Q (.own (.lst xs.reverse)) δ1
 | _=>False
theorem ca1 {q1 q2 p2:Pos}{k}{t:T3D}(h:D3 X E e t):E3 X E (.Subscript e (.Slice none none (some (.UnaryOp .USub (.Constant (.int 1) k q1) q2)) p2) pos) (ca0 t) :=
 ⟨fun F0 H0 B=>ac4 (Fr.bQ4 (h.h F0 H0 B)) fun σ H Q hh=>ex4 hh fun δ F Z P L z w q=>⟨δ,F,Z,_,L,z,w,fun x δ1 v F1 H1 p1 L1 s1 r1=>by
  cases r1 with
  | lst hs rs =>
   refine⟨_,_,rfl,SqL.of (L1.fh _ _ hs),fun p hp=>?_⟩
   obtain⟨L4,k4⟩:=L1.newO (ho:=.lst _) hp (o:=.lst _) ⟨_,ab5,rs.reverse⟩
   exact q _ δ1 _ _ _ p1 L4 s1 k4
  | _=>exact p1.elim⟩⟩
end
abbrev Sp3:=List Sl→(Rv→Option Ob→Prop)→(Addr→Option Ob→Prop)→Prop
def aq4:List Sl→Option Ob
 | []=>none
 | .bor o::_=>some o
 | _::l=>aq4 l
structure Fin (K:PySem.W.Frag) (F0 H0:Hp) (B:Option Addr) (F H:Hp) (ob:Option Ob):Prop where
 fh:Same F H
 f0:Same F0 F
 h0:∀ a o,H0 a=some o→B≠some a→H a=some o
 ff:∀ a,H0 a≠none→F a=F0 a
 bt:∀ b,B=some b→H b≠none
 ob:∀ o,ob=some o→∃ a,B=some a∧F a=none∧OwnOk K F H a o
def Rk (K:PySem.W.Frag)(H0 F H:Hp)(r:Rv)(v:V):Prop :=
 match r with
 | .d x=>Rp K F v x
 | .own o=>∃ a,v=.ref a∧F a=none∧H0 a=none∧OwnOk K F H a o
def lsp (K:PySem.W.Frag)(sp:Sp3):Sp:=fun vs H Q E=>∃ F B δ P Zx,Lk K F H B (vs.map some) δ F H∧sp δ P Zx∧(∀ r ob v F' H',P r ob→Fin K F H B F' H' ob→Rk K H F' H' r v→Q v H')∧(∀ C ob F' H',Zx C ob→Fin K F H B F' H' ob→E (.ref C) none H')
theorem ar5:∀ {δ:List Sl} {o:Ob},aq4 δ=some o→∃ i:Nat,δ[i]?=some (.bor o)
 | [],_,h=>by cases h
 | .bor o::_,_,h=>by cases h;exact⟨0,rfl⟩
 | .un::l,_,h=>by obtain⟨i,e⟩:=ar5 (δ:=l) h;exact⟨i+1,by simpa using e⟩
 | .d _::l,_,h=>by obtain⟨i,e⟩:=ar5 (δ:=l) h;exact⟨i+1,by simpa using e⟩
 | .own _::l,_,h=>by obtain⟨i,e⟩:=ar5 (δ:=l) h;exact⟨i+1,by simpa using e⟩
theorem Lk.fin {K:PySem.W.Frag}{F0 H0 F H:Hp}{B:Option Addr}{σ:St}{δ:List Sl}(L:Lk K F0 H0 B σ δ F H):Fin K F0 H0 B F H (aq4 δ) :=
 ⟨L.fh,L.f0,L.h0,L.ff,fun b e=>(L.bt b e).2,fun o e=>by
  obtain⟨i,ei⟩:=ar5 e
  obtain⟨a,_,hB,f,w⟩:=L.sl i _ ei
  exact⟨a,hB,f,w⟩⟩
theorem Rok.rk {K:PySem.W.Frag}{H0 F H:Hp}{σ:St}{δ:List Sl}{r:Rv}{v:V}(k:Rok K H0 F H σ δ r v):Rk K H0 F H r v:=by
 cases r with
 | d x=>exact k
 | own o=>obtain⟨a,e,f,h,w,_⟩:=k;exact⟨a,e,f,h,w⟩
theorem Lk.entry {K:PySem.W.Frag}{F H:Hp}{B:Option Addr}{vs:List V}{δ:List Sl}{N:List Str}(L:Lk K F H B (vs.map some) δ F H):Lk K F H B (L2.start N vs) (δ++replicate (N.length - vs.length) .un) F H:=by
 have len:δ.length=vs.length:=by rw [L.len,length_map]
 have at':∀ (i:Nat) (s:Sl),(δ++replicate (N.length - vs.length) .un)[i]?=some s→s=.un∨(δ[i]?=some s∧(L2.start N vs)[i]?=(vs.map some)[i]?):=fun i s e=>by
  by_cases h:i < δ.length
  ·rw [getElem?_append_left h] at e
   refine .inr ⟨e,?_⟩
   unfold L2.start
   rw [getElem?_append_left (by rw [length_map];omega)]
  ·rw [getElem?_append_right (by omega),getElem?_replicate] at e
   split at e
   ·cases e;exact .inl rfl
   ·cases e
 refine⟨L.fh,L.f0,L.h0,L.ff,L.bt,by unfold L2.start;simp [len],fun i s e=>?_,fun i j o o' e1 e2 e3=>?_,fun i j o o' e1 e2=>?_,L.tb⟩
 ·rcases at' i s e with rfl | ⟨e1,e2⟩
  ·trivial
  ·rw [e2];exact L.sl i s e1
 ·rcases at' i _ e1 with z | ⟨a1,a2⟩
  ·cases z
  ·rcases at' j _ e2 with z | ⟨b1,b2⟩
   ·cases z
   ·rw [a2,b2] at e3;exact L.ne i j o o' a1 b1 e3
 ·rcases at' i _ e1 with z | ⟨a1,a2⟩
  ·cases z
  ·rcases at' j _ e2 with z | ⟨b1,b2⟩
   ·cases z
   ·exact L.nb i j o o' a1 b1
theorem ok3 {P:Program}{w:World}{K:PySem.W.Frag}{mg:Str→Option Value}{base:Heap}{x qual:Str}{st:Stmt}{f:Addr}{fd:FuncData}{N ps:List Str}{k:Nat}{sp:Sp3}(F:Fun K x qual st f fd)(S:FnScope N ps (aa2 st))
  (len:∀ δ Q Z,sp δ Q Z→δ.length=ps.length)
  (hbody:∀ (cdv:Value) (A:Around) (outer:List Env) (s:Shared) (H:Hp) (E:XK),Room k (A.deeper (PyProof.Rows.envOfC qual (aa2 st) s.heap.objs.size f cdv)) →
   ∃ t,B3 (cxOf (Fr.CX1 P w) P w K mg base N qual (aa2 st) f cdv A outer s H E) E (ab1 st) t ∧
    ∀ δ Q Z,sp δ Q Z→t (fun C δ'=>Z C (aq4 δ')) { nx:=fun δ'=>Q (.d .non) (aq4 δ'),rt:=fun r δ'=>Q r (aq4 δ') } (δ++replicate (N.length - ps.length) .un)) :
  FnOk P w K mg base (Fr.CX1 P w) (k+1) f fd ps (lsp K sp):=by
 have len2:∀ vs H Q E,lsp K sp vs H Q E→vs.length=ps.length:=fun vs H Q E ⟨F,B,δ,P',Zx,L,h,_⟩=>by
  have:=L.len
  rw [length_map] at this
  rw [← this]
  exact len δ _ _ h
 refine Fr.ok1 F S len2 fun cdv A outer s H vs Q E hr h=>?_
 have hl:=len2 vs H Q E h
 obtain⟨t,hb,run⟩:=hbody cdv A outer s H E hr
 obtain⟨F',B,δ,P',Zx,L,h,q,qe⟩:=h
 refine⟨_,hb.h F' H B,_,F',(fun C δ'=>Zx C (aq4 δ')),{ nx:=fun δ'=>P' (.d .non) (aq4 δ'),rt:=fun r δ'=>P' r (aq4 δ') },L.entry (N:=N),?_,?_⟩
 ·exact fun C σ' δ' F2 H2 L2 z=>qe C _ F2 H2 z L2.fin
 ·refine⟨by rw [hl];exact run δ P' Zx h,⟨fun σ' δ' F2 H2 p L2 _=>q _ _ _ F2 H2 p L2.fin Rp.non,fun r v σ' δ' F2 H2 p L2 _ k=>q _ _ _ F2 H2 p L2.fin k.rk,fun _ _ _ _ z=>z.elim,fun _ _ _ _ z=>z.elim⟩⟩
theorem Lk.args {K:PySem.W.Frag}{F H:Hp}(tb:Tb K F)(fh:Same F H){vs:List V}{xs:List D}(r:Rps K F vs xs):Lk K F H none (vs.map some) (xs.map Sl.d) F H:=by
 refine⟨fh,Same.refl _,fun _ _ e _=>e,fun _ _=>rfl,fun _ e=>(by cases e),by simp [r.len],fun i s e=>?_,fun i j o o' e1 _ _=>?_,fun i j o o' e1 _=>?_,tb⟩
 ·rw [getElem?_map] at e
  cases q:xs[i]? with
  | none=>rw [q] at e;cases e
  | some x =>
   rw [q] at e
   cases e
   obtain⟨v,hv,rv⟩:=r.at q
   exact⟨v,by rw [getElem?_map,hv];rfl,rv⟩
 ·rw [getElem?_map] at e1
  cases q:xs[i]? with
  | none=>rw [q] at e1;cases e1
  | some x=>rw [q] at e1;cases e1
 ·rw [getElem?_map] at e1
  cases q:xs[i]? with
  | none=>rw [q] at e1;cases e1
  | some x=>rw [q] at e1;cases e1
theorem Lk.after {K:PySem.W.Frag}{F0 H0 F H F2 H2:Hp}{B:Option Addr}{σ:St}{δ:List Sl}{ob:Option Ob}(L:Lk K F0 H0 B σ δ F H)(f:Fin K F H none F2 H2 ob):Lk K F0 H0 B σ δ F2 H2 :=
 L.grow f.f0 f.fh (fun a o e=>f.h0 a o e fun z=>by cases z) f.ff
theorem Lk.rok {K:PySem.W.Frag}{F0 H0 F H F2 H2:Hp}{B:Option Addr}{σ:St}{δ:List Sl}{r:Rv}{v:V}(L:Lk K F0 H0 B σ δ F H)(k:Rk K H F2 H2 r v):Rok K H0 F2 H2 σ δ r v:=by
 cases r with
 | d x=>exact k
 | own o =>
  obtain⟨a,e,f,h,w⟩:=k
  refine⟨a,e,f,(L.fr0 h).1,w,fun i o' ei z=>?_⟩
  obtain⟨a',e1,_,_,w'⟩:=L.sl i _ ei
  rw [z] at e1
  cases e1
  obtain⟨ho,eh⟩:=w'.there
  rw [h] at eh
  cases eh
section
variable {X:Cx}{E:XK}{e a b c o:Expr}{es:List Expr}{pos p:Pos}
abbrev Own3 (P:Program)(w:World)(K:PySem.W.Frag)(mg:Str→Option Value)(base:Heap)(k:Nat)(x:Str)(ps:List Str)(sp:Sp3):Prop:=Fr.Own1 P w K mg base k x ps (lsp K sp)
def tCl (sp:Sp3)(t:T3A):T3E:=fun Z δ Q=>t Z δ fun xs δ'=>sp (xs.map Sl.d) (fun r _=>Q r δ') (fun C _=>Z C δ')
theorem ab0 {x:Str}{k:Nat}{ps:List Str}{sp:Sp3}{t:T3A}(O:Own3 X.prog X.w X.K X.mg X.base k x ps sp)(hx:Passes (Fr.CX1 X.prog X.w) X E)(hr:Room k X.A)(hg:Gl X x)(ha:A3 X E (e::es) t)(hdb:(x == ("__debug__" : Str))=false:=by decide)
  (he:starEach (e::es) X.env=(false,eval e X.env)::starEach es X.env:=by rfl) (hpl:(backTo pos (starEach es X.env)).any (·.1)=false:=by rfl):E3 X E (.Call (.Name x p) (e::es) [] pos) (tCl sp t) :=
 ⟨fun F0 H0 B=>by
  obtain⟨f,fd,FF,hm,hk,hb⟩:=O
  refine ac4 (bc7 (E:=E) FF hr hg hm hk hb .nil hx (ha.h F0 H0 B) hdb he hpl) fun σ H Q hh=>ex4 hh fun δ F Z P L z w q=>⟨δ,F,Z,_,L,z,w,fun xs δ' vs F' H' p L' s r=>?_⟩
  show lsp X.K sp (vs++[]) H' Q E
  rw [append_nil]
  exact⟨F',none,_,_,_,Lk.args L'.tbF L'.fh r,p,fun rr ob v F2 H2 p2 f2 k2=>q rr δ' v F2 H2 p2 (L'.after f2) (s.trans f2.f0) (L'.rok k2),fun C ob F2 H2 z2 f2=>z C σ δ' F2 H2 (L'.after f2) z2⟩⟩
theorem Lk.argsB {K:PySem.W.Frag}{F H:Hp}{a:Addr}{ob:Ob}(tb:Tb K F)(fh:Same F H)(f:F a=none)(w:OwnOk K F H a ob){vs:List V}{xs:List D}(r:Rps K F vs xs):Lk K F H (some a) ((V.ref a::vs).map some) (.bor ob::xs.map Sl.d) F H:=by
 have L:=Lk.args (K:=K) tb fh r
 obtain⟨ho,eh⟩:=w.there
 refine⟨fh,Same.refl _,fun _ _ e _=>e,fun _ _=>rfl,fun b e=>?_,by simp [r.len],fun i s e=>?_,fun i j o o' e1 e2 e3=>?_,fun i j o o' e1 e2=>?_,tb⟩
 ·cases e
  rw [eh]
  exact⟨(fun z=>by cases z),(fun z=>by cases z)⟩
 ·cases i with
  | zero=>cases e;exact⟨a,rfl,rfl,f,w⟩
  | succ i =>
   have q:=L.sl i s (by simpa using e)
   have es:((V.ref a::vs).map some)[i+1]?=(vs.map some)[i]?:=by simp
   rw [es]
   cases s with
   | un=>trivial
   | d x=>exact q
   | own o =>
    rw [getElem?_cons_succ,getElem?_map] at e
    cases q:xs[i]? with
    | none=>rw [q] at e;cases e
    | some x=>rw [q] at e;cases e
   | bor o =>
    rw [getElem?_cons_succ,getElem?_map] at e
    cases q:xs[i]? with
    | none=>rw [q] at e;cases e
    | some x=>rw [q] at e;cases e
 ·cases i with
  | zero=>cases e1
  | succ i =>
   rw [getElem?_cons_succ,getElem?_map] at e1
   cases q:xs[i]? with
   | none=>rw [q] at e1;cases e1
   | some x=>rw [q] at e1;cases e1
 ·cases i with
  | zero =>
   cases j with
   | zero=>rfl
   | succ j =>
    rw [getElem?_cons_succ,getElem?_map] at e2
    cases q:xs[j]? with
    | none=>rw [q] at e2;cases e2
    | some x=>rw [q] at e2;cases e2
  | succ i =>
   rw [getElem?_cons_succ,getElem?_map] at e1
   cases q:xs[i]? with
   | none=>rw [q] at e1;cases e1
   | some x=>rw [q] at e1;cases e1
theorem Lk.afterB {K:PySem.W.Frag}{F0 H0 F H F2 H2:Hp}{B:Option Addr}{σ:St}{δ:List Sl}{i:Nat}{o o':Ob}{a:Addr}(L:Lk K F0 H0 B σ δ F H)(e:L3.go δ i=some o)(ea:σ[i]?=some (some (.ref a)))(f:Fin K F H (some a) F2 H2 (some o')):Lk K F0 H0 B σ (pt δ i o') F2 H2:=by
 obtain⟨a',e',fn,w⟩:=f.ob o' rfl
 cases e'
 have hh:∀ b u,H b=some u→b≠a→H2 b=some u:=fun b u q n=>f.h0 b u q fun z=>n (by cases z;rfl)
 unfold L3.go at e
 cases q:δ[i]? with
 | none=>rw [q] at e;cases e
 | some s =>
  rw [q] at e
  rw [bi4,q]
  obtain⟨a',e1,f1,w1⟩:=L.ob q e
  rw [ea] at e1
  cases e1
  have h0a:∀ b u,H0 b=some u→B≠some b→b≠a→H2 b=some u:=fun b u e b' n=>hh b u (L.h0 b u e b') n
  have slots:∀ (j:Nat) (t:Sl),i≠j→δ[j]?=some t→SlOk K H0 B F2 H2 (σ[j]?) t:=fun j t n ej=>by
   have z:=L.sl j t ej
   cases t with
   | un=>trivial
   | d y=>obtain⟨v,e2,r2⟩:=z;exact⟨v,e2,r2.same f.f0⟩
   | own o3 =>
    obtain⟨b,e2,f2,h2,w2⟩:=z
    obtain⟨ho,eh⟩:=w2.there
    have nb:b≠a:=by
     rintro rfl
     cases s with
     | own o1=>exact n (L.ne i j o1 o3 q ej (by rw [ea,e2]))
     | bor o1 =>
      obtain⟨a3,e3,hB,_⟩:=L.sl i _ q
      rw [ea] at e3
      cases e3
      exact (L.bt _ hB).1 h2
     | un=>cases e
     | d x=>cases e
    exact⟨b,e2,by rw [f.ff b (by rw [eh];intro z;cases z)];exact f2,h2,w2.same f.f0 (by rw [eh];exact hh b ho eh nb)⟩
   | bor o3 =>
    obtain⟨b,e2,b2,f2,w2⟩:=z
    obtain⟨ho,eh⟩:=w2.there
    have nb:b≠a:=by
     rintro rfl
     cases s with
     | own o1 =>
      obtain⟨a3,e3,_,hn,_⟩:=L.sl i _ q
      rw [ea] at e3
      cases e3
      exact (L.bt _ b2).1 hn
     | bor o1=>exact n (L.nb i j o1 o3 q ej)
     | un=>cases e
     | d x=>cases e
    exact⟨b,e2,b2,by rw [f.ff b (by rw [eh];intro z;cases z)];exact f2,w2.same f.f0 (by rw [eh];exact hh b ho eh nb)⟩
  have nn:∀ b,H b≠none→H2 b≠none:=fun b hb=>by
   by_cases z:b=a
   ·subst z;exact f.bt b rfl
   ·cases eb:H b with
    | none=>exact absurd eb hb
    | some u=>rw [hh b u eb z];intro z;cases z
  refine⟨f.fh,L.f0.trans f.f0,fun b u eb b'=>?_,fun b h=>(f.ff b (L.nn h)).trans (L.ff b h),fun b e=>⟨(L.bt b e).1,nn b (L.bt b e).2⟩,by simp [L.len],fun j t ej=>?_,fun j k o1 o2 e1 e2 e3=>?_,fun j k o1 o2 e1 e2=>?_,L.tb⟩
  ·by_cases z:b=a
   ·subst z
    cases s with
    | own o1 =>
     obtain⟨a3,e3,_,hn,_⟩:=L.sl i _ q
     rw [ea] at e3
     cases e3
     rw [hn] at eb
     cases eb
    | bor o1 =>
     obtain⟨a3,e3,hB,_⟩:=L.sl i _ q
     rw [ea] at e3
     cases e3
     exact absurd hB b'
    | un=>cases e
    | d x=>cases e
   ·exact h0a b u eb b' z
  ·rcases getS ej with ⟨rfl,rfl,lt⟩ | ⟨n,ej⟩
   ·cases s with
    | own o1 =>
     obtain⟨a3,e3,_,hn,_⟩:=L.sl i _ q
     rw [ea] at e3
     cases e3
     exact⟨a,ea,fn,hn,w⟩
    | bor o1 =>
     obtain⟨a3,e3,hB,_⟩:=L.sl i _ q
     rw [ea] at e3
     cases e3
     exact⟨a,ea,hB,fn,w⟩
    | un=>cases e
    | d x=>cases e
   ·exact slots j t n ej
  ·cases s with
   | own o3 =>
    rcases getS e1 with ⟨rfl,z,_⟩ | ⟨n1,e1⟩
    ·rcases getS e2 with ⟨rfl,z2,_⟩ | ⟨n2,e2⟩
     ·rfl
     ·exact L.ne i k o3 o2 q e2 e3
    ·rcases getS e2 with ⟨rfl,z2,_⟩ | ⟨n2,e2⟩
     ·exact L.ne j i o1 o3 e1 q e3
     ·exact L.ne j k o1 o2 e1 e2 e3
   | bor o3 =>
    rcases getS e1 with ⟨rfl,z,_⟩ | ⟨n1,e1⟩
    ·cases z
    ·rcases getS e2 with ⟨rfl,z2,_⟩ | ⟨n2,e2⟩
     ·cases z2
     ·exact L.ne j k o1 o2 e1 e2 e3
   | un=>cases e
   | d x=>cases e
  ·cases s with
   | own o3 =>
    rcases getS e1 with ⟨rfl,z,_⟩ | ⟨n1,e1⟩
    ·cases z
    ·rcases getS e2 with ⟨rfl,z2,_⟩ | ⟨n2,e2⟩
     ·cases z2
     ·exact L.nb j k o1 o2 e1 e2
   | bor o3 =>
    rcases getS e1 with ⟨rfl,z,_⟩ | ⟨n1,e1⟩
    ·rcases getS e2 with ⟨rfl,z2,_⟩ | ⟨n2,e2⟩
     ·rfl
     ·exact L.nb i k o3 o2 q e2
    ·rcases getS e2 with ⟨rfl,z2,_⟩ | ⟨n2,e2⟩
     ·exact L.nb j i o1 o3 e1 q
     ·exact L.nb j k o1 o2 e1 e2
   | un=>cases e
   | d x=>cases e
end
end L3
namespace Fr
open PySem L2
section
variable {es:List Expr}{env:Env}
theorem ac6 {a b c}:starEach (.Tuple a b c::es) env=(false,eval (.Tuple a b c) env)::starEach es env:=by rfl
theorem aa1 {a b}:starEach (.Name a b::es) env=(false,eval (.Name a b) env)::starEach es env:=by rfl
theorem aa7 {a b c}:starEach (.Constant a b c::es) env=(false,eval (.Constant a b c) env)::starEach es env:=by rfl
theorem ab7 {a b c d}:starEach (.BinOp a b c d::es) env=(false,eval (.BinOp a b c d) env)::starEach es env:=by rfl
theorem aw4 {a b c}:starEach (.UnaryOp a b c::es) env=(false,eval (.UnaryOp a b c) env)::starEach es env:=by rfl
theorem aW0 {a b c d}:starEach (.Compare a b c d::es) env=(false,eval (.Compare a b c d) env)::starEach es env:=by rfl
theorem ac2 {a b c d}:starEach (.Call a b c d::es) env=(false,eval (.Call a b c d) env)::starEach es env:=by rfl
end
end Fr
namespace L3
open PySem PySem.Spec L2
section
variable {X:Cx}{E:XK}{e a b c o:Expr}{es:List Expr}{pos p:Pos}
def tClB (sp:Sp3)(i:Nat)(t:T3A):T3E:=fun Z δ Q=>match go δ i with
 | some _=>t Z δ fun xs δ'=>(match go δ' i with
  | some ob=>sp (.bor ob::xs.map Sl.d) (fun r ob'=>match ob' with
    | some o'=>Q r (pt δ' i o')
    | none=>False) (fun C ob'=>match ob' with
    | some o'=>Z C (pt δ' i o')
    | none=>False)
  | none=>False)
 | none=>False
theorem Lk.rokB {K:PySem.W.Frag}{F0 H0 F H F2 H2:Hp}{B:Option Addr}{σ:St}{δ:List Sl}{i:Nat}{o':Ob}{r:Rv}{v:V}(L:Lk K F0 H0 B σ δ F H)(k:Rk K H F2 H2 r v):Rok K H0 F2 H2 σ (pt δ i o') r v:=by
 cases r with
 | d x=>exact k
 | own ob =>
  obtain⟨a,e,f,h,w⟩:=k
  refine⟨a,e,f,(L.fr0 h).1,w,fun j o2 ej z=>?_⟩
  have key:∃ o3,δ[j]?=some (.own o3):=by
   rw [bi4] at ej
   cases q:δ[i]? with
   | none=>rw [q] at ej;exact⟨o2,ej⟩
   | some s =>
    rw [q] at ej
    rcases getS ej with ⟨rfl,z2,_⟩ | ⟨_,ej⟩
    ·cases s with
     | own o4=>exact⟨o4,q⟩
     | bor o4=>cases z2
     | un=>cases z2
     | d x=>cases z2
    ·exact⟨o2,ej⟩
  obtain⟨o3,e3⟩:=key
  obtain⟨a',e1,_,_,w'⟩:=L.sl j _ e3
  rw [z] at e1
  cases e1
  obtain⟨ho,eh⟩:=w'.there
  rw [h] at eh
  cases eh
theorem bI1 {K:PySem.W.Frag}{F0 H0:Hp}{B:Option Addr}{sp:Sp3}{i:Nat}{t:T3A}{σ:St}{H:Hp}{Q:VK}(h:LE K E F0 H0 B (tClB sp i t) σ H Q):bC2 (tVar i) (LA K E F0 H0 B t) σ H fun vs H1=>lsp K sp (vs++[]) H1 Q E:=by
 obtain⟨δ,F,Z,P,L,z,w,q⟩:=h
 unfold tClB at w
 cases e0:L3.go δ i with
 | none=>rw [e0] at w;exact w.elim
 | some ob0 =>
  rw [e0] at w
  obtain⟨a,e1,_,_,_⟩:=L.go e0
  refine⟨_,e1,δ,F,Z,_,L,z,w,fun xs δ' vs F' H' p' L' s r=>?_⟩
  show lsp K sp ((V.ref a::vs)++[]) H' Q E
  rw [append_nil]
  cases e2:L3.go δ' i with
  | none=>rw [e2] at p';exact p'.elim
  | some ob =>
   rw [e2] at p'
   obtain⟨a',e3,f3,w3,_⟩:=L'.go e2
   rw [e1] at e3
   cases e3
   refine⟨F',some a,_,_,_,Lk.argsB L'.tbF L'.fh f3 w3 r,p',fun rr ob' v F2 H2 p2 f2 k2=>?_,fun C ob' F2 H2 z2 f2=>?_⟩
   ·cases ob' with
    | none=>exact p2.elim
    | some o'=>exact q rr _ v F2 H2 p2 (L'.afterB e2 e1 f2) (s.trans f2.f0) (L'.rokB k2)
   ·cases ob' with
    | none=>exact z2.elim
    | some o'=>exact z C σ _ F2 H2 (L'.afterB e2 e1 f2) z2
theorem bd5 (i:Nat){x y:Str}{k:Nat}{ps:List Str}{sp:Sp3}{t:T3A}{p1:Pos}(O:Own3 X.prog X.w X.K X.mg X.base k x ps sp)(hx:Passes (Fr.CX1 X.prog X.w) X E)(hr:Room k X.A)(hg:Gl X x)(ha:A3 X E es t)
  (hN:X.N[i]?=some y:=by rfl) (hv:Vis X.env.scope y:=by first | exact Or.inl rfl | exact Or.inr (Or.inl rfl) | exact Or.inr (Or.inr rfl)) (hd:(y == ("__debug__" : Str))=false:=by decide) (hcd:(y == ("__classdict__" : Str))=false:=by decide)
  (hdb:(x == ("__debug__" : Str))=false:=by decide) (hpl:(backTo pos (starEach es X.env)).any (·.1)=false:=by rfl):E3 X E (.Call (.Name x p) (.Name y p1::es) [] pos) (tClB sp i t) :=
 ⟨fun F0 H0 B=>by
  obtain⟨f,fd,FF,hm,hk,hb⟩:=O
  exact ac4 (bc7 (E:=E) FF hr hg hm hk hb .nil hx (ar8 (ae3 hN hv hd hcd) (ha.h F0 H0 B) Fr.aa1) hdb Fr.aa1 hpl) fun σ H Q h=>bI1 h⟩
theorem bd6 {K:PySem.W.Frag}{F:Hp}{f:Str}:∀ {fs:List (Str×V)} {dfs:List (Str×D)} {x:D},fs.map (·.1)=dfs.map (·.1)→Rps K F (fs.map (·.2)) (dfs.map (·.2))→dfs.lookup f=some x→∃ v,fs.lookup f=some v∧Rp K F v x
 | [],[],_,_,_,h=>by cases h
 | [],_::_,_,e,_,_=>by cases e
 | _::_,[],_,e,_,_=>by cases e
 | (n,v)::fs,(m,d)::dfs,x,e,r,h=>by
  obtain⟨e1,e2⟩:=List.cons.inj e
  have e1:n=m:=e1
  subst e1
  cases r with
  | cons r1 r2 =>
   rw [lookup_cons] at h ⊢
   cases q:(f == n) with
   | true=>rw [q] at h;cases h;exact⟨v,rfl,r1⟩
   | false =>
    rw [q] at h
    exact bd6 e2 r2 h
theorem aR6 {f:Str}:∀ {fs:List (Str×V)} {dfs:List (Str×D)},fs.map (·.1)=dfs.map (·.1)→dfs.lookup f=none→fs.lookup f=none
 | [],_,_,_=>rfl
 | _::_,[],e,_=>by cases e
 | (n,v)::fs,(m,d)::dfs,e,h=>by
  obtain⟨e1,e2⟩:=List.cons.inj e
  have e1:n=m:=e1
  subst e1
  rw [lookup_cons] at h ⊢
  cases q:(f == n) with
  | true=>rw [q] at h;cases h
  | false =>
   rw [q] at h
   exact aR6 e2 h
def tFd (C:Addr)(f:Str)(t:T3D):T3D:=fun Z δ Q=>t Z δ fun x δ'=>match x with
 | .obj C' fs=>C'=C∧∃ v,fs.lookup f=some v∧Q v δ'
 | _=>False
def Sl.flds:Sl→Option (Addr×List (Str×D))
 | .d (.obj C fs)=>some (C,fs)
 | .own (.ins C fs)=>some (C,fs)
 | .bor (.ins C fs)=>some (C,fs)
 | _=>none
theorem Lk.flds {K:PySem.W.Frag}{F0 H0 F H:Hp}{B:Option Addr}{σ:St}{δ:List Sl}{i:Nat}{s:Sl}{C:Addr}{fs:List (Str×D)}(L:Lk K F0 H0 B σ δ F H)(e:δ[i]?=some s)(l:s.flds=some (C,fs)) :
  ∃ a dx vs,σ[i]?=some (some (.ref a))∧H a=some (.ins C dx vs)∧vs.map (·.1)=fs.map (·.1)∧Rps K F (vs.map (·.2)) (fs.map (·.2)):=by
 have q:=L.sl i s e
 cases s with
 | un=>cases l
 | d x =>
  cases x with
  | obj C' gs =>
   cases l
   obtain⟨v,e1,r⟩:=q
   cases r with
   | obj hs ek rs=>exact⟨_,_,_,e1,L.fh _ _ hs,ek,rs⟩
  | _=>cases l
 | own o =>
  cases o with
  | ins C' gs =>
   cases l
   obtain⟨a,e1,_,_,dx,vs,hh,ek,rs⟩:=q
   exact⟨a,dx,vs,e1,hh,ek,rs⟩
  | _=>cases l
 | bor o =>
  cases o with
  | ins C' gs =>
   cases l
   obtain⟨a,e1,_,_,dx,vs,hh,ek,rs⟩:=q
   exact⟨a,dx,vs,e1,hh,ek,rs⟩
  | _=>cases l
def gf (δ:List Sl)(i:Nat):Option (Addr×List (Str×D)):=match δ[i]? with
 | some s=>s.flds
 | none=>none
def tFdN (C:Addr)(f:Str)(i:Nat):T3D:=fun Z δ Q=>match gf δ i with
 | some (C',fs)=>C'=C∧∃ v,fs.lookup f=some v∧Q v δ
 | none=>False
theorem ae9 (i:Nat){C:Addr}{f x:Str}(c:Cls X.K C)(n:NoAttr X.K C f)(hN:X.N[i]?=some x:=by rfl)(hv:Vis X.env.scope x:=by first | exact Or.inl rfl | exact Or.inr (Or.inl rfl) | exact Or.inr (Or.inr rfl))(hd:(x == ("__debug__" : Str))=false:=by decide)
  (hcd:(x == ("__classdict__" : Str))=false:=by decide) (hb:attributeBase (.Name x p) f X.env (eval (.Name x p) X.env)=eval (.Name x p) X.env:=by rfl):D3 X E (.Attribute (.Name x p) f pos) (tFdN C f i) :=
 ⟨fun F0 H0 B=>ac4 (bP5 (ae3 hN hv hd hcd) hb) fun σ H Q hh=>ex4 hh fun δ F Z P L z w q=>by
  unfold tFdN at w
  cases e0:L3.gf δ i with
  | none=>rw [e0] at w;exact w.elim
  | some cf =>
   obtain⟨C',fs⟩:=cf
   rw [e0] at w
   obtain⟨rfl,y,hy,py⟩:=w
   unfold gf at e0
   cases q0:δ[i]? with
   | none=>rw [q0] at e0;cases e0
   | some s =>
    rw [q0] at e0
    obtain⟨a,dx,vs,e1,hh,ek,rs⟩:=L.flds q0 e0
    obtain⟨u,hu,ru⟩:=bd6 ek rs hy
    exact⟨_,e1,a,_,dx,vs,u,rfl,hh,c,n,hu,q y δ u F H py L (Same.refl _) ru⟩⟩
def putD (f:Str)(x:D):List (Str×D)→List (Str×D)
 | []=>[(f,x)]
 | (g,y)::fs=>if g=f then (g,x)::fs else (g,y)::putD f x fs
theorem aW1 {K:PySem.W.Frag}{F:Hp}{f:Str}{v:V}{x:D}(r:Rp K F v x):∀ {fs:List (Str×V)} {dfs:List (Str×D)},fs.map (·.1)=dfs.map (·.1)→Rps K F (fs.map (·.2)) (dfs.map (·.2)) →
  (putF f v fs).map (·.1)=(putD f x dfs).map (·.1)∧Rps K F ((putF f v fs).map (·.2)) ((putD f x dfs).map (·.2))
 | [],[],_,_=>⟨rfl,.one r⟩
 | [],_::_,e,_=>by cases e
 | _::_,[],e,_=>by cases e
 | (n,u)::fs,(m,d)::dfs,e,rr=>by
  obtain⟨e1,e2⟩:=List.cons.inj e
  have e1:n=m:=e1
  subst e1
  cases rr with
  | cons r1 r2 =>
   unfold putF putD
   by_cases q:n=f
   ·rw [if_pos q,if_pos q]
    exact⟨by simp [e2],.cons r r2⟩
   ·rw [if_neg q,if_neg q]
    obtain⟨k1,k2⟩:=aW1 r e2 r2
    exact⟨by simp [k1],.cons r1 k2⟩
def tFs (C:Addr)(f:Str)(i:Nat)(t:T3D):T3S:=fun Z En δ=>t Z δ fun x δ'=>match go δ' i with
 | some (.ins C' fs)=>C'=C∧fs.length < 100∧En.nx (pt δ' i (.ins C' (putD f x fs)))
 | _=>False
theorem aL0 (i:Nat){C:Addr}{f x:Str}{t:T3D}{pos':Pos}(c:Cls X.K C)(n:NoAttr X.K C f)(h:D3 X E e t)(hN:X.N[i]?=some x:=by rfl)(hv:Vis X.env.scope x:=by first | exact Or.inl rfl | exact Or.inr (Or.inl rfl) | exact Or.inr (Or.inr rfl))(hd:(x == ("__debug__" : Str))=false:=by decide)
  (hcd:(x == ("__classdict__" : Str))=false:=by decide) (hs:swapsWith e (some (.Attribute (.Name x p) f pos')) pos.line X.env=pure false:=by rfl):S3 X E (.Assign [.Attribute (.Name x p) f pos'] e pos) (tFs C f i t) :=
 ⟨fun F0 H0 B=>af8 (bP6 (ae3 hN hv hd hcd) (h.h F0 H0 B) hs) fun Dn σ H hh=>ex4 hh fun δ F Z En L z w ok=>⟨δ,F,Z,_,L,z,w,fun y δ' v F' H' p' L' s r=>by
  cases e0:L3.go δ' i with
  | none=>rw [e0] at p';exact p'.elim
  | some ob =>
   rw [e0] at p'
   cases ob with
   | ins C' fs =>
    obtain⟨rfl,hl,p'⟩:=p'
    obtain⟨a,e1,f1,⟨dx,vs,hh,ek,rs⟩,up⟩:=L'.go e0
    obtain⟨k1,k2⟩:=aW1 (f:=f) r ek rs
    have lv:vs.length=fs.length:=by have:=congrArg length ek;simpa using this
    exact⟨_,e1,a,_,dx,vs,rfl,hh,c,n,by omega,ok.nx _ _ F' _ p' (up _ _ ⟨dx,_,ab5,k1,k2⟩) s⟩
   | _=>exact p'.elim⟩⟩
def tMt (C:Addr)(m:Str)(sp:Sp3)(ta:T3D)(t:T3A):T3E:=fun Z δ Q=>ta Z δ fun x δ1=>match x with
 | .obj C' fs=>(C'=C∧fs.lookup m=none)∧t Z δ1 fun xs δ2=>sp (.d (.obj C' fs)::xs.map Sl.d) (fun r _=>Q r δ2) (fun D _=>Z D δ2)
 | _=>False
theorem bd7 {K:PySem.W.Frag}{F0 H0:Hp}{B:Option Addr}{C:Addr}{m:Str}{sp:Sp3}{ta:T3D}{t:T3A}{σ:St}{H:Hp}{Q:VK}(h:LE K E F0 H0 B (tMt C m sp ta t) σ H Q) :
  bi0 C m (lsp K sp) [] E (LD K E F0 H0 B ta) (LA K E F0 H0 B t) σ H Q:=by
 obtain⟨δ,F,Z,P,L,z,w,q⟩:=h
 refine⟨δ,F,Z,_,L,z,w,fun x δ1 v F1 H1 p1 L1 s1 r1=>?_⟩
 cases r1 with
 | obj hs ek rs =>
  obtain⟨⟨rfl,l⟩,p1⟩:=p1
  refine⟨_,_,_,rfl,L1.fh _ _ hs,aR6 ek l,δ1,F1,Z,_,L1,z,p1,fun xs δ2 vs F2 H2 p2 L2 s2 r2=>?_⟩
  have r0:Rp K F2 (V.ref _) (D.obj _ _):=Rp.same s2 (.obj hs ek rs)
  show lsp K sp (V.ref _::(vs++[])) H2 Q E
  rw [append_nil]
  exact⟨F2,none,_,_,_,Lk.args L2.tbF L2.fh (.cons r0 r2),p2,fun rr ob v F3 H3 p3 f3 k3=>q rr δ2 v F3 H3 p3 (L2.after f3) ((s1.trans s2).trans f3.f0) (L2.rok k3),fun D ob F3 H3 z3 f3=>z D σ δ2 F3 H3 (L2.after f3) z3⟩
 | _=>exact p1.elim
structure MtOk (P:Program) (w:World) (K:PySem.W.Frag) (mg:Str→Option Value) (base:Heap) (k:Nat) (C:Addr) (m:Str) (ps:List Str) (sp:Sp3):Prop where
 cl:Cls K C
 ex:∃ (f:Addr) (fd:FuncData),FnOk P w K mg base (Fr.CX1 P w) k f fd ps (lsp K sp)∧Meth K C m f∧Binds K fd ps []
theorem aj0 {C:Addr}{m:Str}{k:Nat}{ps:List Str}{sp:Sp3}{ta:T3D}{t:T3A}{apos:Pos}{pl:Sem Bool}(O:MtOk X.prog X.w X.K X.mg X.base k C m ps sp)(hx:Passes (Fr.CX1 X.prog X.w) X E)(hr:Room k X.A)(ho:D3 X E o ta)(ha:A3 X E (e::es) t)
  (hst:starEach (e::es) X.env=(false,eval e X.env)::starEach es X.env:=by rfl) (hpl:(backTo pos (starEach es X.env)).any (·.1)=false:=by rfl)
  (ht:eval (.Call (.Attribute o m apos) (e::es) [] pos) X.env=(do
   let ov ← eval o X.env
   standAt apos.atName
   let (f,first) ← holding [ov] (getMethod ov m pl)
   callWith pos f first (backTo pos (starEach (e::es) X.env)) (backToKw pos (keywordEach [] X.env))):=by rfl):E3 X E (.Call (.Attribute o m apos) (e::es) [] pos) (tMt C m sp ta t) :=
 ⟨fun F0 H0 B=>by
  obtain⟨f,fd,FF,hm,hb⟩:=O.ex
  exact ac4 (bF9 (ho.h F0 H0 B) O.cl hm FF hr hb .nil hx (ha.h F0 H0 B) hst hpl ht) fun σ H Q h=>bd7 h⟩
theorem aw5 {C:Addr}{m:Str}{k:Nat}{ps:List Str}{sp:Sp3}{ta:T3D}{apos:Pos}{pl:Sem Bool}(O:MtOk X.prog X.w X.K X.mg X.base k C m ps sp)(hx:Passes (Fr.CX1 X.prog X.w) X E)(hr:Room k X.A)(ho:D3 X E o ta)
  (ht:eval (.Call (.Attribute o m apos) [] [] pos) X.env=(do
   let ov ← eval o X.env
   standAt apos.atName
   let (f,first) ← holding [ov] (getMethod ov m pl)
   callWith pos f first (backTo pos (starEach [] X.env)) (backToKw pos (keywordEach [] X.env))):=by rfl):E3 X E (.Call (.Attribute o m apos) [] [] pos) (tMt C m sp ta tA0) :=
 ⟨fun F0 H0 B=>by
  obtain⟨f,fd,FF,hm,hb⟩:=O.ex
  refine ac4 (bu8 (ho.h F0 H0 B) O.cl hm FF hr hb .nil hx ht) fun σ H Q h=>?_
  obtain⟨δ,F,Z,P,L,z,w,q⟩:=bd7 h
  refine⟨δ,F,Z,P,L,z,w,fun x δ1 v F1 H1 p1 L1 s1 r1=>?_⟩
  obtain⟨a,dx,fs,h1,h2,h3,δ2,F2,Z2,P2,L2,z2,w2,q2⟩:=q x δ1 v F1 H1 p1 L1 s1 r1
  exact⟨a,dx,fs,h1,h2,h3,q2 [] δ2 [] F2 _ w2 L2 (Same.refl _) .nil⟩⟩
def tMk (C:Addr)(sp:Sp3)(t:T3A):T3E:=fun Z δ Q=>t Z δ fun xs δ'=>sp (.bor (.ins C [])::xs.map Sl.d) (fun r ob=>match r,ob with
 | .d .non,some o=>Q (.own o) δ'
 | _,_=>False) (fun D _=>Z D δ')
structure MkOk (P:Program) (w:World) (K:PySem.W.Frag) (mg:Str→Option Value) (base:Heap) (k:Nat) (x:Str) (C:Addr) (ps:List Str) (sp:Sp3):Prop where
 ex:∃ (f:Addr) (fd:FuncData),FnOk P w K mg base (Fr.CX1 P w) k f fd ps (lsp K sp)∧Mk K C f∧Binds K fd ps []
 m:mg x=some (.ref C)
theorem bo2 {C:Addr}{x:Str}{k:Nat}{ps:List Str}{sp:Sp3}{t:T3A}(O:MkOk X.prog X.w X.K X.mg X.base k x C ps sp)(hx:Passes (Fr.CX1 X.prog X.w) X E)(hr:Room (k+1) X.A)(hg:Gl X x)(ha:A3 X E (e::es) t)(hdb:(x == ("__debug__" : Str))=false:=by decide)
  (he:starEach (e::es) X.env=(false,eval e X.env)::starEach es X.env:=by rfl) (hpl:(backTo pos (starEach es X.env)).any (·.1)=false:=by rfl):E3 X E (.Call (.Name x p) (e::es) [] pos) (tMk C sp t) :=
 ⟨fun F0 H0 B=>by
  obtain⟨f,fd,FF,hm,hb⟩:=O.ex
  refine ac4 (bG0 hm FF hr hg O.m hb .nil hx (ha.h F0 H0 B) hdb he hpl) fun σ H Q hh=>ex4 hh fun δ F Z P L z w q=>⟨δ,F,Z,_,L,z,w,fun xs δ' vs F' H' p' L' s r=>?_⟩
  intro y dy n1 n2 ne
  have sd:Same H' (upd H' dy (.own y)):=Fr.Same.new n2
  have n1':upd H' dy (.own y) y=none:=by rw [ab2 (Ne.symm ne)];exact n1
  have sy:Same (upd H' dy (.own y)) (upd (upd H' dy (.own y)) y (.ins C dy [])):=Fr.Same.new n1'
  have sh:=sd.trans sy
  generalize hH2:upd (upd H' dy (.own y)) y (.ins C dy [])=H2 at sh
  have hy:H2 y=some (.ins C dy []):=by rw [← hH2];exact ab5
  have fy:F' y=none:=(L'.fr0 n1).2
  show lsp X.K sp (V.ref y::(vs++[])) H2 _ E
  rw [append_nil]
  have LA2:Lk X.K F' H2 (some y) ((V.ref y::vs).map some) (.bor (.ins C [])::xs.map Sl.d) F' H2:=Lk.argsB (ob:=.ins C []) L'.tbF (L'.fh.trans sh) fy ⟨dy,[],hy,rfl,.nil⟩ r
  have L2:Lk X.K F0 H0 B σ δ' F' H2:=L'.grow (Same.refl _) (L'.fh.trans sh) sh fun _ _=>rfl
  have grow:∀ {F3 H3:Hp} {ob:Option Ob},Fin X.K F' H2 (some y) F3 H3 ob→Lk X.K F0 H0 B σ δ' F3 H3:=fun {F3 H3 ob} f3=>by
   refine L'.grow f3.f0 f3.fh (fun b u eb=>?_) fun b hb=>f3.ff b fun z=>?_
   ·exact f3.h0 b u (sh _ _ eb) fun z=>by cases z;rw [n1] at eb;cases eb
   ·cases eb:H' b with
    | none=>exact hb eb
    | some u=>rw [sh _ _ eb] at z;cases z
  refine⟨F',some y,_,_,_,LA2,p',fun rr ob v F3 H3 p3 f3 k3=>?_,fun D ob F3 H3 z3 f3=>z D σ δ' F3 H3 (grow f3) z3⟩
  cases rr with
  | own o=>exact p3.elim
  | d x0 =>
   cases x0 with
   | non =>
    cases ob with
    | none=>exact p3.elim
    | some ob =>
     cases k3
     refine⟨rfl,?_⟩
     obtain⟨a,ea,fa,wa⟩:=f3.ob ob rfl
     cases ea
     refine q _ δ' _ F3 H3 p3 (grow f3) (s.trans f3.f0) ⟨y,rfl,fa,(L'.fr0 n1).1,wa,fun i o' ei zz=>?_⟩
     obtain⟨a',e1,_,_,w'⟩:=L'.sl i _ ei
     rw [zz] at e1
     cases e1
     obtain⟨ho,eh⟩:=w'.there
     rw [n1] at eh
     cases eh
   | _=>exact p3.elim⟩
end
end L3
namespace Fr
open PySem PySem.Spec L2
open PyProof.Rows hiding St
def clOf (cells:List (Str×Addr)):List (Str×NameKind)→List (Str×Addr)→List (Str×Addr)
 | [],cs=>cs
 | (n,k)::r,cs=>if k == .free then (match cells.lookup n with
  | some c=>clOf cells r ((n,c)::cs)
  | none=>clOf cells r cs) else clOf cells r cs
theorem az1 {cells:List (Str×Addr)}:∀ (ns:List (Str×NameKind)) (cs:List (Str×Addr)),(∀ p∈cs,cells.lookup p.1=some p.2)→∀ p∈clOf cells ns cs,cells.lookup p.1=some p.2
 | [],cs,h=>h
 | (n,k)::r,cs,h=>by
  unfold clOf
  split
  ·split
   ·rename_i c e
    exact az1 r _ fun p hp=>by
     rcases mem_cons.mp hp with rfl | hp
     ·exact e
     ·exact h p hp
   ·exact az1 r _ h
  ·exact az1 r _ h
theorem az2 {cells:List (Str×Addr)}:∀ (ns:List (Str×NameKind)) (cs:List (Str×Addr)),∀ p∈cs,p∈clOf cells ns cs
 | [],cs,p,hp=>hp
 | (n,k)::r,cs,p,hp=>by
  unfold clOf
  split
  ·split
   ·exact az2 r _ p (mem_cons_of_mem _ hp)
   ·exact az2 r _ p hp
  ·exact az2 r _ p hp
theorem az3 {cells:List (Str×Addr)}:∀ (ns:List (Str×NameKind)) (cs:List (Str×Addr)) (y:Str) (c:Addr),(y,NameKind.free)∈ns→cells.lookup y=some c→(y,c)∈clOf cells ns cs
 | (n,k)::r,cs,y,c,hm,e=>by
  unfold clOf
  rcases mem_cons.mp hm with h | h
  ·cases h
   rw [if_pos (show (NameKind.free == NameKind.free)=true from rfl),e]
   exact az2 r _ _ mem_cons_self
  ·split
   ·split
    ·exact az3 r _ y c h e
    ·exact az3 r _ y c h e
   ·exact az3 r _ y c h e
theorem aL1 {scope:Scope}{env:Env}(h:∀ y∈scope.names,y.2=.free→∃ c,env.cells.lookup y.1=some c):closureFor scope env=pure (clOf env.cells scope.names []):=by
 unfold closureFor
 generalize ([]:List (Str×Addr))=cs
 revert h cs
 generalize scope.names=ns
 induction ns with
 | nil=>intro h cs;rfl
 | cons x r ih =>
  intro h cs
  obtain⟨n,k⟩:=x
  have ih':=ih fun y hy=>h y (mem_cons_of_mem _ hy)
  unfold clOf
  by_cases hk:(k == NameKind.free)=true
  ·obtain⟨c,e⟩:=h (n,k) mem_cons_self (by simpa using hk)
   have e':env.cells.lookup n=some c:=e
   rw [if_pos hk,e']
   show _=pure (clOf env.cells r ((n,c)::cs))
   rw [← ih' ((n,c)::cs)]
   simp only [forIn_cons,hk,if_true,cellOf,e']
   rfl
  ·rw [if_neg hk]
   rw [← ih' cs]
   simp only [forIn_cons,hk]
   rfl
def cxCF (X:Cx)(scope:Scope)(x:Str)(fr:List (Str×Nat))(s₀:Shared)(H₀:Hp)(fp:List Addr)(pn:List (Addr×Obj)):Cx where
 prog:=X.prog
 w:=X.w
 K:=X.K
 mg:=X.mg
 base:=X.base
 A:=X.A
 N:=x::fr.map (·.1)
 s₀:=s₀
 H₀:=H₀
 env:=compEnvC scope (clOf X.env.cells scope.names []) s₀.heap.objs.size X.env
 outer:=X.stack
 stack:=X.stack
 ex:=fp
 fn:=fun _=>false
 calm:=X.calm
 pn:=pn
 xe:=fun _ _=>False
def stF (fr:List (Str×Nat))(σ:St):List (Option V):=fr.map fun q=>(σ[q.2]?).join
section
variable {X:Cx}{pins:List (Addr×Obj)}{σ:St}{H:Hp}{s:Shared}{scope:Scope}{x:Str}{fp:List Addr}{fr:List (Str×Nat)}
theorem aF6 {cells:List (Str×Addr)}{ns:List (Str×NameKind)}{y:Str}{c:Addr}(e:(clOf cells ns []).lookup y=some c):cells.lookup y=some c :=
 az1 ns [] (fun p hp=>by cases hp) (y,c) (PySem.mem_of_lookup e)
theorem aW2 {β:Type}:∀ {l:List (Str×β)} {y:Str} {c:β},(y,c)∈l→∃ c',l.lookup y=some c'
 | (n,k)::r,y,c,h=>by
  by_cases e:(y == n)=true
  ·exact⟨k,by simp [lookup_cons,e]⟩
  ·rcases mem_cons.mp h with h | h
   ·cases h
    exact absurd (by simp) e
   ·obtain⟨c',q⟩:=aW2 h
    exact⟨c',by simp [lookup_cons,e,q]⟩
theorem at6 {env:Env}:∀ {ns:List (Str×NameKind)} {y:Str} {k:NameKind},(ns.map fun (n,k)=>if (k == NameKind.free && env.scope.kind == .function && env.kindOf n == some .cell) then (n,NameKind.cell) else (n,k)).lookup y=some k→(k=.cell∨k=.free)→(∀ z∈ns,z.2≠.cell)→(y,NameKind.free)∈ns
 | (n,k0)::r,y,k,h,hk,hc=>by
  simp only [map_cons] at h
  by_cases e:(y == n)=true
  ·have en:y=n:=by simpa using e
   subst en
   by_cases c:(k0 == NameKind.free && env.scope.kind == .function && env.kindOf y == some .cell)=true
   ·have:k0=.free:=by
     simp only [Bool.and_eq_true,beq_iff_eq] at c
     exact c.1.1
    rw [this]
    exact mem_cons_self
   ·rw [if_neg c] at h
    simp only [lookup_cons,e] at h
    cases h
    rcases hk with rfl | rfl
    ·exact absurd rfl (hc _ mem_cons_self)
    ·exact mem_cons_self
  ·have h':(r.map fun (n,k)=>if (k == NameKind.free && env.scope.kind == .function && env.kindOf n == some .cell) then (n,NameKind.cell) else (n,k)).lookup y=some k:=by
    split at h
    ·simpa [lookup_cons,e] using h
    ·simpa [lookup_cons,e] using h
   exact mem_cons_of_mem _ (at6 h' hk fun z hz=>hc z (mem_cons_of_mem _ hz))
end
theorem am6 {env:Env}(h1:env.scope.kind=.function):∀ {names:List (Str×NameKind)} {x:Str},names.lookup x=some .free→env.kindOf x=some .cell →
  (names.map fun (n,k)=>if (k == NameKind.free && env.scope.kind == .function && env.kindOf n == some .cell) then (n,NameKind.cell) else (n,k)).lookup x=some .cell
 | [],_,h,_=>by simp at h
 | (n,k)::r,x,h,hc=>by
  have ih:=@am6 env h1 r x
  show ((if (k == NameKind.free && env.scope.kind == .function && env.kindOf n == some .cell)=true then (n,NameKind.cell) else (n,k))::_).lookup x=some .cell
  cases hx:x == n with
  | true =>
   simp only [lookup_cons,hx] at h
   cases h
   have en:x=n:=by simpa using hx
   subst en
   have:(NameKind.free == NameKind.free && env.scope.kind == .function && env.kindOf x == some .cell)=true:=by
    rw [h1,hc]
    rfl
   rw [if_pos this]
   simp [lookup_cons]
  | false =>
   simp only [lookup_cons,hx] at h
   by_cases hc':(k == NameKind.free && env.scope.kind == .function && env.kindOf n == some .cell)=true
   ·rw [if_pos hc'];simp only [lookup_cons,hx];exact ih h hc
   ·rw [if_neg hc'];simp only [lookup_cons,hx];exact ih h hc
section
variable {prog:Program}{w:World}{A:Around}{R:Result→Shared→Prop}{s:Shared}
theorem aW3 {elt target iter c:Expr}{scope:Scope}{pos:Pos}{it acc:Value}{env:Env}(J:Nat→Shared→Prop)
  (turn:∀ n s,J n s→∀ E:Value→Shared→Prop,wpAny (model prog w) A (pyNext it) (fun r s₁=>(r=none∧R (.ok .next) s₁)∨∃ v,r=some v ∧
   wpAny (model prog w) A (letOwnedTupleGo target it v) (fun _ s₂=>wpAny (model prog w) A (assign target env v) (fun _ s₃=>wpAny (model prog w) A (isTrue c env (eval c env)) (fun b s₄=>if b=true then wpAny (model prog w) A (eval elt env) (fun y s₅ =>
    wpAny (model prog w) A (call (.builtin "list.append") [acc,y]) (fun _ s₆=>∃ m,m < n∧J m s₆) E s₅) E s₄ else ∃ m,m < n∧J m s₄) E s₃) E s₂) E s₁) E s)
  (n:Nat) (h:J n s):codeAny (model prog w) A (.compLoop (.ListComp elt [⟨target,iter,[c],0⟩] scope pos) 0 it acc env) R s:=by
 refine codeAny_loop rfl J (fun n s hJ=>?_) n h
 refine wpAny_noted ?_
 rw [compTurn_list]
 refine wpAny_bind (wpAny_standAt (wpAny_bind (thn (turn n s hJ _) fun r s₁ h₁=>?_)))
 rcases h₁ with ⟨rfl,h₁⟩ | ⟨v,rfl,h₁⟩
 ·exact wpAny_pure h₁
 ·refine wpAny_bind (thn h₁ fun _ s₂ h₂=>wpAny_bind (thn h₂ fun _ s₃ h₃=>?_))
  refine wpAny_bind ?_
  rw [forIn_cons]
  refine wpAny_bind (wpAny_bind (thn h₃ fun b s₄ h₄=>wpAny_pure ?_))
  show wpAny _ _ (pure b) _ _ s₄
  refine wpAny_pure ?_
  cases b with
  | false=>exact wpAny_pure ⟨rfl,h₄⟩
  | true=>exact wpAny_bind (wpAny_bind (thn h₄ fun y s₅ h₅=>wpAny_bind (thn h₅ fun _ s₆ h₆=>wpAny_pure (wpAny_pure ⟨rfl,h₆⟩))))
end
def cxCV (X:Cx)(scope:Scope)(xs:List Str)(fr:List (Str×Nat))(s₀:Shared)(H₀:Hp)(fp:List Addr)(pn:List (Addr×Obj)):Cx :=
 { cxCF X scope Str.empty fr s₀ H₀ fp pn with N:=xs++fr.map (·.1) }
structure FrOkV (X:Cx) (scope:Scope) (xs:List Str) (fr:List (Str×Nat)):Prop where
 kind:scope.kind=.function
 names:∀ y∈scope.names,y.2=.local→scope.names.lookup y.1=some .local
 own:∀ x∈xs,scope.names.lookup x=some .local
 nocell:∀ y∈scope.names,y.2≠.cell
 frees:∀ y∈scope.names,y.2=.free→X.env.scope.names.lookup y.1=some .cell
 at_:∀ q∈fr,X.N[q.2]?=some q.1∧(q.1,NameKind.free)∈scope.names∧(relabel scope X.env).names.lookup q.1=some .cell
 nd:(xs++fr.map (·.1)).Nodup
def aW4 (scope sc:Scope)(xs:List Str)(fr:List (Str×Nat))(N:List Str):Bool :=
 decide (scope.kind=.function) && decide (sc.kind=.function) && decide (∀ y∈scope.names,y.2=.local→scope.names.lookup y.1=some .local) && decide (∀ x∈xs,scope.names.lookup x=some .local) &&
 decide (∀ y∈scope.names,y.2≠.cell) && decide (∀ y∈scope.names,y.2=.free→sc.names.lookup y.1=some .cell) && decide (∀ q∈fr,N[q.2]?=some q.1∧(q.1,NameKind.free)∈scope.names∧scope.names.lookup q.1=some .free) && decide (xs++fr.map (·.1)).Nodup
theorem ah9 {X:Cx}{scope sc:Scope}{xs:List Str}{fr:List (Str×Nat)}{N:List Str}(hs:X.env.scope=sc)(hN:X.N=N)(h:aW4 scope sc xs fr N=true):FrOkV X scope xs fr:=by
 unfold aW4 at h
 simp only [Bool.and_eq_true,decide_eq_true_eq] at h
 obtain⟨⟨⟨⟨⟨⟨⟨a1,a0⟩,a2⟩,a3⟩,a4⟩,a5⟩,a6⟩,a7⟩:=h
 subst hs
 subst hN
 exact⟨a1,a2,a3,a4,a5,fun q hq=>⟨(a6 q hq).1,(a6 q hq).2.1,am6 a0 (a6 q hq).2.2 (a5 _ (a6 q hq).2.1 rfl)⟩,a7⟩
section
variable {X:Cx}{pins:List (Addr×Obj)}{σ:St}{H:Hp}{s:Shared}{scope:Scope}{xs:List Str}{fp:List Addr}{fr:List (Str×Nat)}
theorem aW5 {h₁:Heap}{t:Nat}{m:Str→Option Value}(I:Inv X pins σ H s)(f:FpIn X pins s.heap fp)(O:FrOkV X scope xs fr)(hn:h₁.Ns s.heap.objs.size m)(k:∀ b o,s.heap.get? b=some o→h₁.get? b=some o) :
  Inv (cxCV X scope xs fr s H fp (X.pn++pins)) [] (replicate xs.length none++stF fr σ) H { s with heap:=h₁,toks:=t }:=by
 have cx:∀ y c,(cxCV X scope xs fr s H fp (X.pn++pins)).env.cells.lookup y=some c→X.env.cells.lookup y=some c:=fun y c e=>aF6 e
 have hasC:∀ y,(y,NameKind.free)∈scope.names→∃ c,X.env.cells.lookup y=some c∧(clOf X.env.cells scope.names []).lookup y=some c:=fun y hy=>by
  obtain⟨c,e⟩:=I.ok.has y (.inl (O.frees _ hy rfl))
  obtain⟨c',e'⟩:=aW2 (az3 scope.names [] y c hy e)
  have:=aF6 e'
  rw [e] at this
  cases this
  exact⟨c,e,e'⟩
 refine⟨⟨I.ok.mod,O.kind,I.ok.glob,I.ok.blt,le_refl _,fun y z c e1 e2=>I.ok.inj y z c (cx y c e1) (cx z c e2),fun y hy=>?_,(fun y c hf _=>Bool.noConfusion hf),I.ok.hd,I.ok.frames,.inl rfl,fun b hb=>⟨ne_of_lt (f.lt b hb),fun y c e=>f.cl b hb y c (cx y c e)⟩,
   I.bs,le_trans I.ok.bsz I.sz,fun b o e=>f.base I b o e,f.stack I,I.stack,I.stkFree⟩,
  rfl,I.bare,Un.kept k,⟨m,hn,fun i y v e1 e2 hv=>?_⟩,fun y c e=>?_,I.hok.fresh (le_refl _),fun y c e=>I.freeC y c (cx y c e),fun p hp=>?_,I.hok.kept k,?_⟩
 ·have hm:(y,NameKind.free)∈scope.names:=by
   rcases hy with hy | hy
   ·exact at6 hy (.inl rfl) O.nocell
   ·exact at6 hy (.inr rfl) O.nocell
  obtain⟨c,_,e⟩:=hasC y hm
  exact⟨c,e⟩
 ·have hi:xs.length≤i:=by
   apply Nat.le_of_not_lt
   intro lt
   rw [getElem?_append_left (by rw [length_replicate];exact lt),getElem?_replicate] at e2
   split at e2 <;> cases e2
  ·have e1':(fr.map (·.1))[i - xs.length]?=some y:=by
    have:(xs++fr.map (·.1))[i]?=some y:=e1
    rw [getElem?_append_right hi] at this
    exact this
   have e2':(stF fr σ)[i - xs.length]?=some (some v):=by
    rw [getElem?_append_right (by rw [length_replicate];exact hi),length_replicate] at e2
    exact e2
   unfold stF at e2'
   rw [getElem?_map] at e1' e2'
   cases hq:fr[i - xs.length]? with
   | none=>rw [hq] at e1';cases e1'
   | some q =>
    rw [hq] at e1' e2'
    have ey:q.1=y:=by simpa using e1'
    have ev:(σ[q.2]?).join=some v:=by simpa using e2'
    have hqm:=mem_of_getElem? hq
    obtain⟨a1,a2,a3⟩:=O.at_ q hqm
    rw [ey] at a1 a2 a3
    have ev':σ[q.2]?=some (some v):=by
     cases z:σ[q.2]? with
     | none=>rw [z] at ev;cases ev
     | some o=>rw [z] at ev;simpa using ev
    have hcell:=O.frees _ a2 rfl
    obtain⟨m',hn',L⟩:=I.loc
    obtain⟨u,r,lk⟩:=L q.2 y v a1 ev' (.inr (.inl hcell))
    refine⟨u,r,.inr ⟨.inl a3,?_⟩⟩
    obtain⟨c,c1,c2⟩:=hasC y a2
    refine⟨c,c2,?_⟩
    rcases lk with ⟨z,_⟩ | ⟨_,c',c3,⟨o,o1,o2⟩⟩
    ·have z':X.env.scope.names.lookup y=some .local:=z
     rw [hcell] at z'
     cases z'
    ·rw [c1] at c3
     cases c3
     exact⟨o,k _ _ o1,o2⟩
 ·obtain⟨v,o,o1,o2⟩:=I.cell y c (cx y c e)
  exact⟨v,o,k _ _ o1,o2⟩
 ·have hp':p∈X.pn++pins:=by
   have:p∈(X.pn++pins)++[]:=hp
   rwa [append_nil] at this
  obtain⟨e,n,ne,nf,d⟩:=I.pin p hp'
  refine⟨k _ _ e,n,ne_of_lt (Heap.lt_size e),fun z=>?_,d⟩
  rcases mem_cons.mp (I.stkSub p.1 z) with q | q
  ·exact ne q
  ·exact nf q
 ·show (replicate xs.length none++stF fr σ).length=(xs++fr.map (·.1)).length
  unfold stF
  simp
theorem bo3 {σ':St}{H':Hp}{s':Shared}{h':Heap}(I:Inv X pins σ H s)(f:FpIn X pins s.heap fp)(I':Inv (cxCV X scope xs fr s H fp (X.pn++pins)) [] σ' H' s')(hs:Heap.SameBut s.heap.objs.size s'.heap h') :
  Inv X pins σ H' { s' with heap:=h' }:=by
 have nC:H' s.heap.objs.size=none:=I'.free
 have lt:∀ {b:Addr} {o:Obj},s.heap.get? b=some o→b≠s.heap.objs.size:=fun e=>ne_of_lt (Heap.lt_size e)
 have u:=I'.base
 refine Inv.call' (s':={ s' with heap:=h' }) (ch:=fp) I I'.os ⟨fun b o e n hb hx=>?_,fun b o e n hb hx=>?_,u.free,fun b o e hx=>?_,u.tups,u.frzs,u.tbls⟩ (fun b o e=>?_) I'.bare fun b hb=>⟨f.own b hb,f.loc b hb,f.cl b hb,f.pn b hb⟩
 ·exact (hs.2 b (lt e)).trans (u.keep b o e n hb hx)
 ·obtain⟨sl,q⟩:=u.slot b o e n hb hx
  exact⟨sl,(hs.2 b (lt e)).trans q⟩
 ·obtain⟨o',q⟩:=u.there b o e hx
  exact⟨o',(hs.2 b (lt e)).trans q⟩
 ·refine (I'.hok b o e).stay (fun c v hc q=>(hs.2 c ?_).trans q) (fun _ q=>q) fun _ _ q=>q
  rintro rfl
  rcases hc with z | z
  ·rw [← z,nC] at e
   cases e
  ·rw [nC] at z
   cases z
end
abbrev au9:=St→Hp→(Option V→Hp→Prop)→Prop
def az4 (X:Cx)(ifs:List Expr)(elt:Expr)(ts:au9):Prop :=
 ∀ (pins:List (Addr×Obj)) (s:Shared) (τ:St) (H:Hp) (R:Option V→Hp→Prop) (acc:Value) (K:Shared→Prop) (E:Value→Shared→Prop),Inv X pins τ H s→ts τ H R →
  (∀ y u s' H',Inv X pins τ H' s'→RelV y u→R (some y) H'→wpAny (model X.prog X.w) X.A (call (.builtin "list.append") [acc,u]) (fun _ s''=>K s'') E s')→(∀ s' H',Inv X pins τ H' s'→R none H'→K s') →
  (match ifs with
   | []=>wpAny (model X.prog X.w) X.A (eval elt X.env) (fun y s₄=>wpAny (model X.prog X.w) X.A (call (.builtin "list.append") [acc,y]) (fun _ s₅=>K s₅) E s₄) E s
   | [c]=>wpAny (model X.prog X.w) X.A (isTrue c X.env (eval c X.env)) (fun b s₄=>if b=true then wpAny (model X.prog X.w) X.A (eval elt X.env) (fun y s₅=>wpAny (model X.prog X.w) X.A (call (.builtin "list.append") [acc,y]) (fun _ s₆=>K s₆) E s₅) E s₄ else K s₄) E s
   | _=>False)
def bR6 (te:TE):au9:=fun τ H R=>te τ H fun y H'=>R (some y) H'
def bR7 (tt:TT)(te:TE):au9:=fun τ H R=>tt τ H fun b H1=>if b=true then te τ H1 (fun y H2=>R (some y) H2) else R none H1
theorem bR8 {X:Cx}{elt:Expr}{te:TE}(hx:X.xe=fun _ _=>False)(h:PE X elt te):az4 X [] elt (bR6 te):=by
 intro pins s τ H R acc K E I w k1 k2
 refine wpAny_mono (h pins s τ H _ I w) (fun u s' ⟨y,H',I',r,q⟩=>k1 y u s' H' I' r q) fun _ _ z=>?_
 rw [hx] at z
 exact z.elim
theorem bR9 {X:Cx}{elt c:Expr}{te:TE}{tt:TT}(hx:X.xe=fun _ _=>False)(h:PE X elt te)(hc:PT X c tt):az4 X [c] elt (bR7 tt te):=by
 intro pins s τ H R acc K E I w k1 k2
 have no:∀ v s,X.xe v s→False:=fun v s z=>by rw [hx] at z;exact z
 refine wpAny_mono (hc pins s τ H _ I w) (fun b s' ⟨H',I',q⟩=>?_) fun _ _ z=>(no _ _ z).elim
 cases b with
 | true =>
  rw [if_pos rfl] at q ⊢
  exact wpAny_mono (h pins s' τ H' _ I' q) (fun u s2 ⟨y,H2,I2,r,q2⟩=>k1 y u s2 H2 I2 r q2) fun _ _ z=>(no _ _ z).elim
 | false =>
  rw [if_neg Bool.false_ne_true] at q ⊢
  exact k2 s' H' I' q
theorem aC7 {prog:Program}{w:World}{A:Around}{R:Result→Shared→Prop}{s:Shared}{elt target iter:Expr}{ifs:List Expr}{scope:Scope}{pos:Pos}{it acc:Value}{env:Env}(J:Nat→Shared→Prop)
  (turn:∀ n s,J n s→∀ E:Value→Shared→Prop,wpAny (model prog w) A (pyNext it) (fun r s₁=>(r=none∧R (.ok .next) s₁)∨∃ v,r=some v ∧
   wpAny (model prog w) A (letOwnedTupleGo target it v) (fun _ s₂=>wpAny (model prog w) A (assign target env v) (fun _ s₃=>(match ifs with
    | []=>wpAny (model prog w) A (eval elt env) (fun y s₄=>wpAny (model prog w) A (call (.builtin "list.append") [acc,y]) (fun _ s₅=>∃ m,m < n∧J m s₅) E s₄) E s₃
    | [c]=>wpAny (model prog w) A (isTrue c env (eval c env)) (fun b s₄=>if b=true then wpAny (model prog w) A (eval elt env) (fun y s₅=>wpAny (model prog w) A (call (.builtin "list.append") [acc,y]) (fun _ s₆=>∃ m,m < n∧J m s₆) E s₅) E s₄ else ∃ m,m < n∧J m s₄) E s₃
    | _=>False)) E s₂) E s₁) E s)
  (hl:ifs.length≤1) (n:Nat) (h:J n s):codeAny (model prog w) A (.compLoop (.ListComp elt [⟨target,iter,ifs,0⟩] scope pos) 0 it acc env) R s:=by
 match ifs,hl with
 | [],_=>exact ba9 J turn n h
 | [c],_=>exact aW3 J turn n h
def aL2 (fr:List (Str×Nat))(n:Nat)(wi:TI)(g:TG)(ts:au9):TE:=fun σ H Q=>wi σ H fun J H1=>∀ D,H1 D=none→∃ W:Nat→Nat→St→List V→Hp→Prop,(∃ m,W 0 m (replicate n none++stF fr σ) [] (upd H1 D (.lst []))) ∧
 ∀ i m τ ys H2,W i m τ ys H2→(J.stop i H2∧Q (.ref D) H2)∨(J.go i H2∧ys.length < sizeLine∧∀ v H3,J.yld i H2 v H3→g v τ H3 fun τ2 H4=>ts τ2 H4 fun oy H5=>match oy with
  | some y=>H5 D=some (.lst ys)∧∃ m',m' < m∧W (i+1) m' τ2 (ys++[y]) (upd H5 D (.lst (ys++[y])))
  | none=>∃ m',m' < m∧W (i+1) m' τ2 ys H5)
section
variable {X:Cx}
theorem bw1 {elt iter tg:Expr}{ifs:List Expr}{xs:List Str}{pos:Pos}{scope:Scope}{fr:List (Str×Nat)}{wi:TI}{g:TG}{ts:au9}(hc:X.calm=true)(hi:PI X tg iter wi)(O:FrOkV X scope xs fr)
  (hg:∀ (s₀:Shared) (H₀:Hp) (fp:List Addr) (pn:List (Addr×Obj)),PG (cxCV X scope xs fr s₀ H₀ fp pn) tg g)
  (hstep:∀ (s₀:Shared) (H₀:Hp) (fp:List Addr) (pn:List (Addr×Obj)),az4 (cxCV X scope xs fr s₀ H₀ fp pn) ifs elt ts) (hlf:ifs.length≤1)
  (hs:∀ y,foldedSetIterable iter X.env y=pure y:=by intro _;rfl):PE X (.ListComp elt [⟨tg,iter,ifs,0⟩] scope pos) (aL2 fr xs.length wi g ts):=by
 intro pins s σ H Q I h
 show wpAny (model X.prog X.w) X.A (eval (.ListComp elt [⟨tg,iter,ifs,0⟩] scope pos) X.env) _ _ s
 rw [eval_ListComp]
 refine wpAny_comprehension_free (use:=none) rfl hs (aL1 fun y hy e=>I.ok.has _ (.inl (O.frees y hy e))) O.kind O.names (thn (hi pins s σ H _ I h) fun v s1 h1=>thn h1 fun itv s2 h2=>?_)
 obtain⟨it,fp,tn,J,H2,rfl,I2,T,st2,f2,k2⟩:=h2
 refine wpAny_newObj_type ?_ (by show 0≤sizeLine;decide)
 have n2:H2 s2.heap.objs.size=none:=I2.hok.fresh (le_refl _)
 have I3:Inv X pins σ (upd H2 s2.heap.objs.size (.lst [])) { s2 with heap:=s2.heap.push { cls:=.type "list",data:=.seq ([]:List Value).toArray } }:=I2.lnew (t':=s2.toks) .nil (zero_le _)
 obtain⟨W,⟨m0,w0⟩,turn⟩:=k2 _ n2
 generalize hD:s2.heap.objs.size=D at n2 w0 turn I3
 have up3:∀ b o,s2.heap.get? b=some o→(s2.heap.push { cls:=.type "list",data:=.seq ([]:List Value).toArray }).get? b=some o:=fun b o e=>Heap.get?_push_of_some _ e
 generalize hs3:({ s2 with heap:=s2.heap.push { cls:=.type "list",data:=.seq ([]:List Value).toArray } }:Shared)=s3 at I3
 have hh3:s3.heap=s2.heap.push { cls:=.type "list",data:=.seq ([]:List Value).toArray }:=by rw [← hs3]
 rw [← hh3] at up3
 have st3:tn 0 s3.heap:=T.keep _ _ _ st2 fun b _ o e=>up3 b o e
 have f3:FpIn X pins s3.heap fp:=by
  refine⟨fun b hb=>?_,fun b hb=>(f2 b hb).2.1,fun b hb=>(f2 b hb).2.2.1,fun b hb=>(f2 b hb).2.2.2.1,fun b hb=>(f2 b hb).2.2.2.2.1,fun b hb=>(f2 b hb).2.2.2.2.2⟩
  obtain⟨o,e,_⟩:=T.obj _ _ st3 b hb
  exact Heap.lt_size e
 have fn3:∀ b∈fp,upd H2 D (.lst []) b=none:=fun b hb=>by
  obtain⟨o,e,_⟩:=T.obj _ _ st2 b hb
  have ne:b≠D:=by rw [← hD];exact ne_of_lt (Heap.lt_size e)
  rw [ab2 ne]
  exact (f2 b hb).1
 refine wpAny_newFunctionEnv O.nocell (by intro y hy;simp at hy) (fun h₁ hn1 hs1=>?_) O.kind
 have k1:∀ b o,s3.heap.get? b=some o→h₁.get? b=some o:=fun b o e=>(hs1.2 b (ne_of_lt (Heap.lt_size e))).trans (Heap.get?_push_of_some _ e)
 have I4:=aW5 (scope:=scope) (xs:=xs) (fr:=fr) (t:=s3.toks+([]:List (Str×Value)).length) I3 f3 O hn1 k1
 have st4:tn 0 h₁:=T.keep _ _ _ st3 fun b _ o e=>k1 b o e
 have N1:(cxCV X scope xs fr s3 (upd H2 D (.lst [])) fp (X.pn++pins)).N.Nodup:=by
  exact O.nd
 have stat:∀ {H':Hp},(∀ b∈fp,H' b=none)→∀ b∈fp,FpOk (cxCV X scope xs fr s3 (upd H2 D (.lst [])) fp (X.pn++pins)) [] H' b:=fun hn b hb =>
  ⟨hn b hb,ne_of_lt (f3.lt b hb),f3.stack I3 b hb,.inl hb,fun y c e=>f3.cl b hb y c (aF6 e),fun p hp=>f3.pn b hb p (by
   have:p∈(X.pn++pins)++[]:=hp
   rwa [append_nil] at this)⟩
 have loop:∀ s4:Shared,s4={ s3 with heap:=h₁,toks:=s3.toks+([]:List (Str×Value)).length } →
   codeAny (model X.prog X.w) X.A (.compLoop (.ListComp elt [⟨tg,iter,ifs,0⟩] scope pos) 0 (.ref it) (.ref D) (compEnvC scope (clOf X.env.cells scope.names []) s3.heap.objs.size X.env))
    (compPost (model X.prog X.w) X.A X.xe none (EP X pins σ Q) (.ref D) s3.heap.objs.size) s4:=by
  rintro s4 rfl
  refine aC7 (fun n s'=>∃ i ys τ H',Inv (cxCV X scope xs fr s3 (upd H2 D (.lst [])) fp (X.pn++pins)) [] τ H' s'∧tn i s'.heap∧(∀ b∈fp,H' b=none)∧W i n τ ys H') ?_ hlf m0 ⟨0,[],_,_,I4,st4,fn3,w0⟩
  rintro n s5 ⟨i,ys,τ5,H5,I5,st5,fr5,w5⟩ E
  rcases turn i n τ5 ys H5 w5 with ⟨stop,q⟩ | ⟨go,hlen,step⟩
  ·refine thn (T.done (cxCV X scope xs fr s3 (upd H2 D (.lst [])) fp (X.pn++pins)) rfl rfl rfl hc i [] s5 τ5 H5 E I5 (stat fr5) st5 stop) fun r s6 ⟨hr,I6⟩=>.inl ⟨hr,?_⟩
   obtain⟨m,hm,_⟩:=I6.loc
   exact⟨m,hm,fun h' hb=>⟨.ref D,H5,bo3 I3 f3 I6 hb,rfl,q⟩⟩
  ·refine thn (T.item (cxCV X scope xs fr s3 (upd H2 D (.lst [])) fp (X.pn++pins)) rfl rfl rfl hc i [] s5 τ5 H5 E I5 (stat fr5) st5 go) fun r s6 ⟨u,hr,h6⟩=>.inr ⟨u,hr,?_⟩
   refine thn h6 fun _ s7 ⟨y,H7,I7,r7,y7,st7,fr7⟩=>?_
   have I7':=I7.pinned (stat fr7) (T.obj _ _ st7)
   refine wpAny_mono (hg _ _ _ _ _ s7 τ5 H7 y u _ I7' r7 (step y H7 y7)) (fun _ s8 ⟨τ8,H8,I8,q8⟩=>?_) fun _ _ z=>False.elim z
   have back:∀ {zs:List V} {G:Hp} {t:Shared} {m':Nat},Inv (cxCV X scope xs fr s3 (upd H2 D (.lst [])) fp (X.pn++pins)) ([]++av7 fp s7.heap) τ8 G t→m' < n→W (i+1) m' τ8 zs G →
     ∃ m,m < n∧∃ i ys τ H',Inv (cxCV X scope xs fr s3 (upd H2 D (.lst [])) fp (X.pn++pins)) [] τ H' t∧tn i t.heap∧(∀ b∈fp,H' b=none)∧W i m τ ys H':=fun {zs G t m'} I10 hm w9=>by
    refine⟨m',hm,i+1,zs,_,_,I10.unpinned,T.keep _ _ _ st7 fun b hb o e=>(I10.pin (b,o) (mem_append_right _ (mem_append_right _ (aj5 hb e)))).1,fun b hb=>?_,w9⟩
    obtain⟨o,e,d⟩:=T.obj _ _ st7 b hb
    exact (I10.pin (b,o) (mem_append_right _ (mem_append_right _ (aj5 hb e)))).2.1
   refine hstep _ _ _ _ _ s8 τ8 H8 _ (.ref D) (fun s'=>∃ m,m < n∧∃ i ys τ H',Inv (cxCV X scope xs fr s3 (upd H2 D (.lst [])) fp (X.pn++pins)) [] τ H' s'∧tn i s'.heap∧(∀ b∈fp,H' b=none)∧W i m τ ys H') E I8 q8 (fun z u9 s10 H10 I10 r10 q10=>?_) fun s9 H9 I9 q9=>?_
   ·obtain⟨a10,m',hm,w10⟩:=q10
    refine wpAny_mono (aB8 (X:=cxCV X scope xs fr s3 (upd H2 D (.lst [])) fp (X.pn++pins)) _ s10 _ H10 (.ref D) [z] (.ref D) [u9] (fun v H'=>v=.non∧H'=upd H10 D (.lst (ys++[z]))) I10 rfl (.cons r10 .nil) ⟨D,ys,z,rfl,rfl,a10,hlen,rfl,rfl⟩) (fun _ s11 ⟨v11,H11,I11,_,_,e11⟩=>?_) fun _ _ z=>False.elim z
    subst e11
    exact back I11 hm w10
   ·obtain⟨m',hm,w9⟩:=q9
    exact back I9 hm w9
 subst hs3
 exact codeAny_compStart_list (loop _ rfl) (T.self _ _ _ _ _ st4 (loop _ rfl))
theorem bd8 {elt iter tg:Expr}{ifs:List Expr}{xs:List Str}{y:Str}{py pos spos:Pos}{scope:Scope}{fr:List (Str×Nat)}{wi:TI}{g:TG}{ts:au9}{i₀:Nat}(hN:X.N.Nodup)(hiy:X.N[i₀]?=some y)(hy:Loc X.env.scope y)(hc:X.calm=true)(hi:PI X tg iter wi)(O:FrOkV X scope xs fr)
  (hg:∀ (s₀:Shared) (H₀:Hp) (fp:List Addr) (pn:List (Addr×Obj)),PG (cxCV X scope xs fr s₀ H₀ fp pn) tg g)
  (hstep:∀ (s₀:Shared) (H₀:Hp) (fp:List Addr) (pn:List (Addr×Obj)),az4 (cxCV X scope xs fr s₀ H₀ fp pn) ifs elt ts) (hlf:ifs.length≤1)
  (hsw:swapsWith (.ListComp elt [⟨tg,iter,ifs,0⟩] scope pos) (some (.Name y py)) spos.line X.env=pure true:=by rfl)
  (hf:X.fn y=true∨X.env.scope.names.lookup y=some .local:=by first | exact .inl rfl | exact .inr rfl | assumption)
  (hs:∀ y,foldedSetIterable iter X.env y=pure y:=by intro _;rfl):PS X (.Assign [.Name y py] (.ListComp elt [⟨tg,iter,ifs,0⟩] scope pos) spos) (tAsg (aL2 fr xs.length wi g ts) (bh4 i₀)):=by
 intro pins s σ H Dn I h
 show wpAny (model X.prog X.w) X.A (exec (.Assign [.Name y py] (.ListComp elt [⟨tg,iter,ifs,0⟩] scope pos) spos) X.env) _ _ s
 rw [exec_Assign_Name_used _ _ _ _ hsw];refine wpAny_bind (wpAny_standAt (wpAny_bind ?_))
 show wpAny _ X.A (do let _ ← comprehension (.ListComp elt [⟨tg,iter,ifs,0⟩] scope pos) scope X.env _ (newList []) false (eval iter X.env) (some (assign (.Name y py) X.env))) _ _ s
 refine wpAny_bind (wpAny_mono (wpAny_comprehension_free (use:=some (assign (.Name y py) X.env)) (Q:=fun _ s'=>SP X pins Dn .next s') rfl hs (aL1 fun y hy e=>I.ok.has _ (.inl (O.frees y hy e))) O.kind O.names
  (thn (hi pins s σ H _ I h) fun v s1 h1=>thn h1 fun itv s2 h2=>?_)) (fun _ s' hq=>wpAny_pure (wpAny_pure hq)) fun _ _ e=>e)
 obtain⟨it,fp,tn,J,H2,rfl,I2,T,st2,f2,k2⟩:=h2
 refine wpAny_newObj_type ?_ (by show 0≤sizeLine;decide)
 have n2:H2 s2.heap.objs.size=none:=I2.hok.fresh (le_refl _)
 have I3:Inv X pins σ (upd H2 s2.heap.objs.size (.lst [])) { s2 with heap:=s2.heap.push { cls:=.type "list",data:=.seq ([]:List Value).toArray } }:=I2.lnew (t':=s2.toks) .nil (zero_le _)
 obtain⟨W,⟨m0,w0⟩,turn⟩:=k2 _ n2
 generalize hD:s2.heap.objs.size=D at n2 w0 turn I3
 have up3:∀ b o,s2.heap.get? b=some o→(s2.heap.push { cls:=.type "list",data:=.seq ([]:List Value).toArray }).get? b=some o:=fun b o e=>Heap.get?_push_of_some _ e
 generalize hs3:({ s2 with heap:=s2.heap.push { cls:=.type "list",data:=.seq ([]:List Value).toArray } }:Shared)=s3 at I3
 have hh3:s3.heap=s2.heap.push { cls:=.type "list",data:=.seq ([]:List Value).toArray }:=by rw [← hs3]
 rw [← hh3] at up3
 have st3:tn 0 s3.heap:=T.keep _ _ _ st2 fun b _ o e=>up3 b o e
 have f3:FpIn X pins s3.heap fp:=by
  refine⟨fun b hb=>?_,fun b hb=>(f2 b hb).2.1,fun b hb=>(f2 b hb).2.2.1,fun b hb=>(f2 b hb).2.2.2.1,fun b hb=>(f2 b hb).2.2.2.2.1,fun b hb=>(f2 b hb).2.2.2.2.2⟩
  obtain⟨o,e,_⟩:=T.obj _ _ st3 b hb
  exact Heap.lt_size e
 have fn3:∀ b∈fp,upd H2 D (.lst []) b=none:=fun b hb=>by
  obtain⟨o,e,_⟩:=T.obj _ _ st2 b hb
  have ne:b≠D:=by rw [← hD];exact ne_of_lt (Heap.lt_size e)
  rw [ab2 ne]
  exact (f2 b hb).1
 refine wpAny_newFunctionEnv O.nocell (by intro y hy;simp at hy) (fun h₁ hn1 hs1=>?_) O.kind
 have k1:∀ b o,s3.heap.get? b=some o→h₁.get? b=some o:=fun b o e=>(hs1.2 b (ne_of_lt (Heap.lt_size e))).trans (Heap.get?_push_of_some _ e)
 have I4:=aW5 (scope:=scope) (xs:=xs) (fr:=fr) (t:=s3.toks+([]:List (Str×Value)).length) I3 f3 O hn1 k1
 have st4:tn 0 h₁:=T.keep _ _ _ st3 fun b _ o e=>k1 b o e
 have N1:(cxCV X scope xs fr s3 (upd H2 D (.lst [])) fp (X.pn++pins)).N.Nodup:=by
  exact O.nd
 have stat:∀ {H':Hp},(∀ b∈fp,H' b=none)→∀ b∈fp,FpOk (cxCV X scope xs fr s3 (upd H2 D (.lst [])) fp (X.pn++pins)) [] H' b:=fun hn b hb =>
  ⟨hn b hb,ne_of_lt (f3.lt b hb),f3.stack I3 b hb,.inl hb,fun y c e=>f3.cl b hb y c (aF6 e),fun p hp=>f3.pn b hb p (by
   have:p∈(X.pn++pins)++[]:=hp
   rwa [append_nil] at this)⟩
 have loop:∀ s4:Shared,s4={ s3 with heap:=h₁,toks:=s3.toks+([]:List (Str×Value)).length } →
   codeAny (model X.prog X.w) X.A (.compLoop (.ListComp elt [⟨tg,iter,ifs,0⟩] scope pos) 0 (.ref it) (.ref D) (compEnvC scope (clOf X.env.cells scope.names []) s3.heap.objs.size X.env))
    (compPost (model X.prog X.w) X.A X.xe (some (assign (.Name y py) X.env)) (fun _ s'=>SP X pins Dn .next s') (.ref D) s3.heap.objs.size) s4:=by
  rintro s4 rfl
  refine aC7 (fun n s'=>∃ i ys τ H',Inv (cxCV X scope xs fr s3 (upd H2 D (.lst [])) fp (X.pn++pins)) [] τ H' s'∧tn i s'.heap∧(∀ b∈fp,H' b=none)∧W i n τ ys H') ?_ hlf m0 ⟨0,[],_,_,I4,st4,fn3,w0⟩
  rintro n s5 ⟨i,ys,τ5,H5,I5,st5,fr5,w5⟩ E
  rcases turn i n τ5 ys H5 w5 with ⟨stop,q⟩ | ⟨go,hlen,step⟩
  ·refine thn (T.done (cxCV X scope xs fr s3 (upd H2 D (.lst [])) fp (X.pn++pins)) rfl rfl rfl hc i [] s5 τ5 H5 E I5 (stat fr5) st5 stop) fun r s6 ⟨hr,I6⟩=>.inl ⟨hr,?_⟩
   obtain⟨m,hm,_⟩:=I6.loc
   have lt3:∀ b o,s3.heap.get? b=some o→b≠s3.heap.objs.size:=fun b o e=>ne_of_lt (Heap.lt_size e)
   have nL:s3.heap.objs.size≠X.env.locals:=fun z=>by
    obtain⟨_,⟨o,_,_,ho,_⟩,_⟩:=I3.loc
    exact lt3 _ o ho z.symm
   have nC:∀ x c,X.env.cells.lookup x=some c→c≠s3.heap.objs.size:=fun x c e=>by
    obtain⟨_,o,ho,_⟩:=I3.cell x c e
    exact lt3 _ o ho
   have nP:∀ p∈X.pn++pins,p.1≠s3.heap.objs.size:=fun p hp=>lt3 _ _ (I3.pin p hp).1
   have fC:H5 s3.heap.objs.size=none:=I6.free
   have J6:Inv X pins σ H5 s6:=bo3 I3 f3 I6 (Heap.SameBut.refl _ _)
   show wpAny _ X.A (assign (.Name y py) X.env (.ref D)) _ _ s6
   refine wpAny_assign_Name (aQ4 J6 hN hiy hy (show RelV (.ref D) (.ref D) from rfl) (fun s7 J7 hsb=>?_) hf)
   obtain⟨a,hsb,ha⟩:=hsb
   have na:s3.heap.objs.size≠a:=by
    rcases ha with rfl | ha
    ·exact nL
    ·exact (nC _ _ ha).symm
   refine⟨m,hm.sameBut hsb na,fun h' hb=>?_⟩
   exact⟨_,H5,J7.turned (t':=s7.toks) (it:=s3.heap.objs.size) (fun b o hb' e=>(hb.2 b hb').trans e) fC nL (.inr I3.sz) nC nP,q⟩
  ·refine thn (T.item (cxCV X scope xs fr s3 (upd H2 D (.lst [])) fp (X.pn++pins)) rfl rfl rfl hc i [] s5 τ5 H5 E I5 (stat fr5) st5 go) fun r s6 ⟨u,hr,h6⟩=>.inr ⟨u,hr,?_⟩
   refine thn h6 fun _ s7 ⟨yi,H7,I7,r7,y7,st7,fr7⟩=>?_
   have I7':=I7.pinned (stat fr7) (T.obj _ _ st7)
   refine wpAny_mono (hg _ _ _ _ _ s7 τ5 H7 yi u _ I7' r7 (step yi H7 y7)) (fun _ s8 ⟨τ8,H8,I8,q8⟩=>?_) fun _ _ z=>False.elim z
   have back:∀ {zs:List V} {G:Hp} {t:Shared} {m':Nat},Inv (cxCV X scope xs fr s3 (upd H2 D (.lst [])) fp (X.pn++pins)) ([]++av7 fp s7.heap) τ8 G t→m' < n→W (i+1) m' τ8 zs G →
     ∃ m,m < n∧∃ i ys τ H',Inv (cxCV X scope xs fr s3 (upd H2 D (.lst [])) fp (X.pn++pins)) [] τ H' t∧tn i t.heap∧(∀ b∈fp,H' b=none)∧W i m τ ys H':=fun {zs G t m'} I10 hm w9=>by
    refine⟨m',hm,i+1,zs,_,_,I10.unpinned,T.keep _ _ _ st7 fun b hb o e=>(I10.pin (b,o) (mem_append_right _ (mem_append_right _ (aj5 hb e)))).1,fun b hb=>?_,w9⟩
    obtain⟨o,e,d⟩:=T.obj _ _ st7 b hb
    exact (I10.pin (b,o) (mem_append_right _ (mem_append_right _ (aj5 hb e)))).2.1
   refine hstep _ _ _ _ _ s8 τ8 H8 _ (.ref D) (fun s'=>∃ m,m < n∧∃ i ys τ H',Inv (cxCV X scope xs fr s3 (upd H2 D (.lst [])) fp (X.pn++pins)) [] τ H' s'∧tn i s'.heap∧(∀ b∈fp,H' b=none)∧W i m τ ys H') E I8 q8 (fun z u9 s10 H10 I10 r10 q10=>?_) fun s9 H9 I9 q9=>?_
   ·obtain⟨a10,m',hm,w10⟩:=q10
    refine wpAny_mono (aB8 (X:=cxCV X scope xs fr s3 (upd H2 D (.lst [])) fp (X.pn++pins)) _ s10 _ H10 (.ref D) [z] (.ref D) [u9] (fun v H'=>v=.non∧H'=upd H10 D (.lst (ys++[z]))) I10 rfl (.cons r10 .nil) ⟨D,ys,z,rfl,rfl,a10,hlen,rfl,rfl⟩) (fun _ s11 ⟨v11,H11,I11,_,_,e11⟩=>?_) fun _ _ z=>False.elim z
    subst e11
    exact back I11 hm w10
   ·obtain⟨m',hm,w9⟩:=q9
    exact back I9 hm w9
 subst hs3
 exact codeAny_compStart_list (loop _ rfl) (T.self _ _ _ _ _ st4 (loop _ rfl))
end
end Fr
namespace L3
open PySem PySem.Spec L2
def frzs:List Nat→List Sl→Option (List Sl×List Sl)
 | [],δ=>some ([],δ)
 | j::js,δ=>match δ[j]? with
  | some (.d x)=>(match frzs js δ with
   | some (l,δ')=>some (.d x::l,δ')
   | none=>none)
  | some (.own o)=>(match o.frz with
   | some x=>(match frzs js (δ.set j (.d x)) with
    | some (l,δ')=>some (.d x::l,δ')
    | none=>none)
   | none=>none)
  | _=>none
theorem Lk.frzs {K:PySem.W.Frag}{F0 H0 H:Hp}{B:Option Addr}{σ:St}:∀ {js:List Nat} {δ l δ':List Sl} {F:Hp},Lk K F0 H0 B σ δ F H→frzs js δ=some (l,δ') →
  ∃ F',Lk K F0 H0 B σ δ' F' H∧Same F F'∧l.length=js.length∧∀ (k:Nat) (s:Sl),l[k]?=some s→∃ x v j,js[k]?=some j∧s=.d x∧σ[j]?=some (some v)∧Rp K F' v x
 | [],δ,l,δ',F,L,e=>by
  cases e
  exact⟨F,L,Same.refl _,rfl,fun k s h=>by simp at h⟩
 | j::js,δ,l,δ',F,L,e=>by
  unfold L3.frzs at e
  cases ej:δ[j]? with
  | none=>rw [ej] at e;cases e
  | some s =>
   rw [ej] at e
   cases s with
   | un=>cases e
   | bor o=>cases e
   | d x =>
    dsimp only at e
    cases er:L3.frzs js δ with
    | none=>rw [er] at e;cases e
    | some p =>
     obtain⟨l',δ2⟩:=p
     rw [er] at e
     cases e
     obtain⟨F',L',s',len,all⟩:=Lk.frzs L er
     obtain⟨v,ev,rv⟩:=L.sl j _ ej
     refine⟨F',L',s',by simp [len],fun k s hk=>?_⟩
     cases k with
     | zero=>cases hk;exact⟨x,v,j,rfl,rfl,ev,rv.same s'⟩
     | succ k =>
      obtain⟨x1,v1,j1,a1,a2,a3,a4⟩:=all k s (by simpa using hk)
      exact⟨x1,v1,j1,by simpa using a1,a2,a3,a4⟩
   | own o =>
    dsimp only at e
    cases eo:o.frz with
    | none=>rw [eo] at e;cases e
    | some x =>
     rw [eo] at e
     dsimp only at e
     obtain⟨F1,v,L1,s1,ev,rv⟩:=L.froz ej eo
     cases er:L3.frzs js (δ.set j (.d x)) with
     | none=>rw [er] at e;cases e
     | some p =>
      obtain⟨l',δ2⟩:=p
      rw [er] at e
      cases e
      obtain⟨F',L',s',len,all⟩:=Lk.frzs L1 er
      refine⟨F',L',s1.trans s',by simp [len],fun k s hk=>?_⟩
      cases k with
      | zero=>cases hk;exact⟨x,v,j,rfl,rfl,ev,rv.same s'⟩
      | succ k =>
       obtain⟨x1,v1,j1,a1,a2,a3,a4⟩:=all k s (by simpa using hk)
       exact⟨x1,v1,j1,by simpa using a1,a2,a3,a4⟩
def Sl.wipe:Sl→Sl
 | .d x=>.d x
 | _=>.un
abbrev T3P:=List Sl→(Option D→List Sl→Prop)→Prop
abbrev Z0:Zk:=fun _ _=>False
def st0 (te:T3E):T3P:=fun δ Q=>te Z0 δ fun r δ'=>match r.frz with
 | some y=>Q (some y) δ'
 | none=>False
def st1 (tt:T3T)(te:T3E):T3P:=fun δ Q=>tt Z0 δ fun b δ1=>Br b (te Z0 δ1 fun r δ'=>match r.frz with
 | some y=>Q (some y) δ'
 | none=>False) (Q none δ1)
def ai0 (g:T3G)(ts:T3P):List D→List Sl→(List D→Prop)→Prop
 | [],_,Q=>Q []
 | x::xs,δ,Q=>g x δ fun δ1=>ts δ1 fun oy δ2=>match oy with
  | some y=>ai0 g ts xs (δ2.map Sl.wipe) fun ys=>Q (y::ys)
  | none=>ai0 g ts xs (δ2.map Sl.wipe) Q
def tCm (n:Nat)(js:List Nat)(ti:T3I)(g:T3G)(ts:T3P):T3E:=fun Z δ Q=>ti Z δ fun xs δ1=>match frzs js δ1 with
 | some (l,δ2)=>xs.length≤1000000∧ai0 g ts xs (replicate n .un++l) fun ys=>Q (.own (.lst ys)) δ2
 | none=>False
def LP (K:PySem.W.Frag)(ts:T3P):Fr.au9:=fun τ H R=>∃ F0 H0 B δ F P,Lk K F0 H0 B τ δ F H∧ts δ P∧∀ oy δ' F' H',P oy δ'→Lk K F0 H0 B τ δ' F' H'→Same F F'→(match oy with
 | some y=>∀ v,Rp K F' v y→R (some v) H'
 | none=>R none H')
structure P3 (X:Cx) (ifs:List Expr) (elt:Expr) (ts:T3P):Prop where
 h:Fr.az4 X ifs elt (LP X.K ts)
theorem aR7 {X:Cx}{ifs:List Expr}{elt:Expr}{t t':Fr.au9}(h:Fr.az4 X ifs elt t)(i:∀ τ H R,t' τ H R→t τ H R):Fr.az4 X ifs elt t':=fun pins s τ H R acc K E I w k1 k2=>h pins s τ H R acc K E I (i _ _ _ w) k1 k2
theorem bD1 {X:Cx}{e:Expr}{ι:Type}{t:ι→TE}(h:∀ i,PE X e (t i)):PE X e fun σ H Q=>∃ i,t i σ H Q:=fun pins s σ H Q I ⟨i,w⟩=>h i pins s σ H Q I w
theorem ca2 {X:Cx}{e:Expr}{ι:Type}{t:ι→TT}(h:∀ i,PT X e (t i)):PT X e fun σ H Q=>∃ i,t i σ H Q:=fun pins s σ H Q I ⟨i,w⟩=>h i pins s σ H Q I w
theorem aq5 {X:Cx}{elt:Expr}{te:T3E}(hx:X.xe=fun _ _=>False)(h:E3 X E0 elt te):P3 X [] elt (st0 te):=by
 refine⟨aR7 (Fr.bR8 hx (bD1 (ι:=Hp×Hp×Option Addr) fun i=>h.toD.h i.1 i.2.1 i.2.2)) fun τ H R ⟨F0,H0,B,δ,F,P,L,w,q⟩=>?_⟩
 refine⟨(F0,H0,B),δ,F,Z0,fun x δ'=>P (some x) δ',L,(fun _ _ _ _ _ _ z=>z.elim),?_,fun x δ' v F' H' p L' s r=>q (some x) δ' F' H' p L' s v r⟩
 exact w
theorem aL3 {X:Cx}{elt c:Expr}{te:T3E}{tt:T3T}(hx:X.xe=fun _ _=>False)(h:E3 X E0 elt te)(hc:C3 X E0 c tt):P3 X [c] elt (st1 tt te):=by
 refine⟨aR7 (Fr.bR9 hx (bD1 (ι:=Hp×Hp×Option Addr) fun i=>h.toD.h i.1 i.2.1 i.2.2) (ca2 (ι:=Hp×Hp×Option Addr) fun i=>hc.h i.1 i.2.1 i.2.2)) fun τ H R ⟨F0,H0,B,δ,F,P,L,w,q⟩=>?_⟩
 refine⟨(F0,H0,B),δ,F,Z0,_,L,(fun _ _ _ _ _ _ z=>z.elim),w,fun b δ1 F1 H1 p1 L1 s1=>?_⟩
 cases b with
 | true =>
  rw [if_pos rfl]
  exact⟨(F0,H0,B),δ1,F1,Z0,fun x δ'=>P (some x) δ',L1,(fun _ _ _ _ _ _ z=>z.elim),p1,fun x δ' v F' H' p L' s r=>q (some x) δ' F' H' p L' (s1.trans s) v r⟩
 | false =>
  rw [if_neg Bool.false_ne_true]
  exact q none δ1 F1 H1 p1 L1 s1
theorem Lk.fresh {K:PySem.W.Frag}{F0 H0 F H F' H':Hp}{B:Option Addr}{τ:St}{δ:List Sl}(L:Lk K F0 H0 B τ δ F H)(s1:Same F F')(s2:Same F' H'):Lk K F' H' none τ (δ.map Sl.wipe) F' H':=by
 have at':∀ (i:Nat) (s:Sl),(δ.map Sl.wipe)[i]?=some s→s=.un∨∃ x,s=.d x∧δ[i]?=some (.d x):=fun i s e=>by
  rw [getElem?_map] at e
  cases q:δ[i]? with
  | none=>rw [q] at e;cases e
  | some t =>
   rw [q] at e
   cases e
   cases t with
   | d x=>exact .inr ⟨x,rfl,rfl⟩
   | un=>exact .inl rfl
   | own o=>exact .inl rfl
   | bor o=>exact .inl rfl
 refine⟨s2,Same.refl _,fun _ _ e _=>e,fun _ _=>rfl,fun _ e=>(by cases e),by simp [L.len],fun i s e=>?_,fun i j o o' e1 _ _=>?_,fun i j o o' e1 _=>?_,L.tbF.same s1⟩
 ·rcases at' i s e with rfl | ⟨x,rfl,ex⟩
  ·trivial
  ·obtain⟨v,ev,rv⟩:=L.sl i _ ex
   exact⟨v,ev,rv.same s1⟩
 ·rcases at' i _ e1 with z | ⟨x,z,_⟩ <;> cases z
 ·rcases at' i _ e1 with z | ⟨x,z,_⟩ <;> cases z
theorem bi6 {X:Cx}{tg:Expr}{ι:Type}{t:ι→TG}(h:∀ i,PG X tg (t i)):PG X tg fun v σ H Q=>∃ i,t i v σ H Q:=fun pins s σ H v u Q I r ⟨i,w⟩=>h i pins s σ H v u Q I r w
structure ItOkH (K:PySem.W.Frag) (F1 H1:Hp) (J:It) (xs:List D):Prop where
 go:∀ i F H,Same F1 F→Same F H→Same H1 H→i < xs.length→J.go i H
 yld:∀ i F H x H',Same F1 F→Same F H→Same H1 H→i < xs.length→J.yld i H x H'→∃ F' d,Same F F'∧Same F' H'∧Same H H'∧(∀ a,H a≠none→F' a=F a)∧xs[i]?=some d∧Rp K F' x d
 stop:∀ F H,Same F1 F→Same F H→Same H1 H→J.stop xs.length H
theorem ItOk.h {K:PySem.W.Frag}{F1 H1:Hp}{J:It}{xs:List D}(h:ItOk K F1 J xs):ItOkH K F1 H1 J xs:=⟨fun i F H a b _ c=>h.go i F H a b c,fun i F H x H' a b _ c d=>h.yld i F H x H' a b c d,fun F H a b _=>h.stop F H a b⟩
def LIc (K:PySem.W.Frag)(E:XK)(F0 H0:Hp)(B:Option Addr)(t:T3I):TI:=fun σ H R=>∃ δ F Z P,Lk K F0 H0 B σ δ F H∧ZOk K E F0 H0 B Z∧t Z δ P∧∀ xs δ' F' H' J,P xs δ'→Lk K F0 H0 B σ δ' F' H'→Same F F'→ItOkH K F' H' J xs→R J H'
structure I3c (X:Cx) (E:XK) (tg iter:Expr) (t:T3I):Prop where
 h:∀ F0 H0 B,PI X tg iter (LIc X.K E F0 H0 B t)
theorem I3.toC {X:Cx}{E:XK}{tg iter:Expr}{t:T3I}(h:I3 X E tg iter t):I3c X E tg iter t:=⟨fun F0 H0 B=>at5 (h.h F0 H0 B) fun σ H R hh=>ex4 hh fun δ F Z P L z w q=>⟨δ,F,Z,P,L,z,w,fun xs δ' F' H' J p L' s it=>q xs δ' F' H' J p L' s it.h⟩⟩
def tILN (i:Nat):T3I:=fun Z δ Q=>match gl δ i with
 | some xs=>Q xs δ
 | none=>False
theorem at7 (i:Nat){X:Cx}{E:XK}{tg:Expr}{x:Str}{p:Pos}(hN:X.N[i]?=some x:=by rfl)(hv:Vis X.env.scope x:=by first | exact Or.inl rfl | exact Or.inr (Or.inl rfl) | exact Or.inr (Or.inr rfl))(hd:(x == ("__debug__" : Str))=false:=by decide)
  (hcd:(x == ("__classdict__" : Str))=false:=by decide):I3c X E tg (.Name x p) (tILN i) :=
 ⟨fun F0 H0 B=>at5 (bc3 (ae3 hN hv hd hcd)) fun σ H R hh=>ex4 hh fun δ F Z P L z w q=>by
  unfold tILN at w
  cases e0:L3.gl δ i with
  | none=>rw [e0] at w;exact w.elim
  | some xs =>
   rw [e0] at w
   obtain⟨a,vs,e1,sq,rs⟩:=L.gl e0
   refine⟨.ref a,e1,a,rfl,⟨_,sq⟩,q xs δ F H _ w L (Same.refl _) ⟨fun i F2 H2 a1 a2 a3 lt=>?_,fun i F2 H2 y H3 a1 a2 a3 lt yy=>?_,fun F2 H2 a1 a2 a3=>⟨_,a3.seq sq,by rw [rs.len];exact le_refl _⟩⟩⟩
   ·obtain⟨v,hv,_⟩:=rs.at (getElem?_eq_getElem lt)
    exact⟨_,v,a3.seq sq,hv⟩
   ·obtain⟨rfl,y2⟩:=yy
    have hv:=y2 _ (a3.seq sq)
    obtain⟨d,e1,r1⟩:=rs.at' hv
    exact⟨F2,d,Same.refl _,a2,Same.refl _,fun _ _=>rfl,e1,r1.same a1⟩⟩
theorem bd9 {K:PySem.W.Frag}{E:XK}{F0 H0:Hp}{B:Option Addr}{n:Nat}{fr:List (Str×Nat)}{ti:T3I}{g:T3G}{ts:T3P}{σ:St}{H:Hp}{Q:VK}(h:LE K E F0 H0 B (tCm n (fr.map (·.2)) ti g ts) σ H Q) :
  Fr.aL2 fr n (LIc K E F0 H0 B ti) (fun v σ H Q=>∃ i:Hp×Hp×Option Addr,LG K i.1 i.2.1 i.2.2 g v σ H Q) (LP K ts) σ H Q:=by
 obtain⟨δ,F,Z,P,L,z,w,q⟩:=h
 refine⟨δ,F,Z,_,L,z,w,fun xs δ1 F1 H1 J p1 L1 s1 it D hD=>?_⟩
 cases ef:L3.frzs (fr.map (·.2)) δ1 with
 | none=>rw [ef] at p1;exact p1.elim
 | some p0 =>
  obtain⟨l,δ2⟩:=p0
  rw [ef] at p1
  obtain⟨hx,p1⟩:=p1
  obtain⟨F2,L2,s2,len,all⟩:=L1.frzs ef
  have sD:Same H1 (upd H1 D (.lst [])):=Fr.Same.new hD
  have fD:F2 D=none:=(L2.fr0 hD).2
  have Li:Lk K F2 (upd H1 D (.lst [])) none (replicate n none++Fr.stF fr σ) (replicate n .un++l) F2 (upd H1 D (.lst [])):=by
   have at':∀ (i:Nat) (s:Sl),(replicate n Sl.un++l)[i]?=some s→s=.un∨(n≤i∧l[i - n]?=some s):=fun i s e=>by
    by_cases lt:i < n
    ·rw [getElem?_append_left (by simpa using lt),getElem?_replicate] at e
     rw [if_pos lt] at e
     exact .inl (Option.some.inj e).symm
    ·rw [getElem?_append_right (by simpa using lt),length_replicate] at e
     exact .inr ⟨by omega,e⟩
   refine⟨L2.fh.trans sD,Same.refl _,fun _ _ e _=>e,fun _ _=>rfl,fun _ e=>(by cases e),by simp [len,Fr.stF],fun i s e=>?_,fun i j o o' e1 _ _=>?_,fun i j o o' e1 _=>?_,L2.tbF⟩
   ·rcases at' i s e with rfl | ⟨ni,el⟩
    ·trivial
    ·obtain⟨x,v,j,a1,rfl,a3,a4⟩:=all _ _ el
     refine⟨v,?_,a4⟩
     rw [getElem?_append_right (by simpa using ni),length_replicate]
     unfold Fr.stF
     rw [getElem?_map] at a1 ⊢
     cases eq:fr[i - n]? with
     | none=>rw [eq] at a1;cases a1
     | some qq =>
      rw [eq] at a1
      have a1:qq.2=j:=by simpa using a1
      show some ((σ[qq.2]?).join)=_
      rw [a1,a3]
      rfl
   ·rcases at' i _ e1 with z1 | ⟨ni,el⟩
    ·cases z1
    ·obtain⟨x,v,j,a1,a2,a3,a4⟩:=all _ _ el
     cases a2
   ·rcases at' i _ e1 with z1 | ⟨ni,el⟩
    ·cases z1
    ·obtain⟨x,v,j,a1,a2,a3,a4⟩:=all _ _ el
     cases a2
  refine⟨fun i m τ ys H=>m=xs.length - i∧i≤xs.length∧ys.length≤i∧∃ δi F zs,Lk K F H none τ δi F H∧Same F2 F∧Same F H∧Same H1 (upd H D (.lst ys))∧(∀ a,H1 a≠none→F a=F2 a)∧F D=none∧H D=some (.lst ys)∧Rps K F ys zs∧ai0 g ts (xs.drop i) δi fun ws=>P (.own (.lst (zs++ws))) δ2,
   ⟨xs.length,by simp,zero_le _,zero_le _,_,F2,[],Li,Same.refl _,L2.fh.trans sD,?_,fun _ _=>rfl,fD,ab5,.nil,p1⟩,?_⟩
  ·intro a u ea
   rw [bc1]
   exact sD a u ea
  rintro i m τ ys G ⟨rfl,hi,hy,δi,F3,zs,L3,s3,s3h,h1g,f3,fD3,hD3,rs,pc⟩
  have sG:Same H1 G:=fun a u ea=>by
   have:=h1g a u ea
   by_cases e:a=D
   ·subst e;rw [hD] at ea;cases ea
   ·rwa [ab2 e] at this
  by_cases lt:i < xs.length
  ·refine .inr ⟨it.go i F3 G (s2.trans s3) s3h sG lt,af7 (by omega),fun v G2 yv=>?_⟩
   obtain⟨F4,d,a1,a2,a3,a4,a5,a6⟩:=it.yld i F3 G v G2 (s2.trans s3) s3h sG lt yv
   have ed:xs.drop i=d::xs.drop (i+1):=by
    rw [drop_eq_getElem_cons lt,(List.getElem?_eq_some_iff.mp a5).2]
   rw [ed] at pc
   have fD4:F4 D=none:=by rw [a4 D (by rw [hD3];intro z;cases z)];exact fD3
   have hD4:G2 D=some (.lst ys):=a3 _ _ hD3
   have L4:Lk K F3 G none τ δi F4 G2:=L3.grow a1 a2 a3 a4
   refine⟨(F3,G,none),δi,F4,d,_,L4,a6,pc,fun τ5 δ5 F5 G5 p5 L5 s5=>⟨F3,G,none,δ5,F5,_,L5,p5,fun oy δ6 F6 G6 p6 L6 s6=>?_⟩⟩
   have hD6:G6 D=some (.lst ys):=L6.h0 D _ hD3 fun z=>by cases z
   have fD6:F6 D=none:=by rw [L6.ff D (by rw [hD3];intro z;cases z)];exact fD3
   have s36:Same F3 F6:=L6.f0
   have g6:Same G G6:=fun a u ea=>L6.h0 a u ea fun z=>by cases z
   have nf6:∀ a,H1 a≠none→F6 a=F2 a:=fun a ha=>by
    rw [← f3 a ha]
    refine L6.ff a fun z=>?_
    cases e:H1 a with
    | none=>exact ha e
    | some u=>rw [sG a u e] at z;cases z
   cases oy with
   | none =>
    refine⟨_,by omega,rfl,lt,by omega,_,F6,zs,L6.fresh (Same.refl _) L6.fh,s3.trans s36,L6.fh,fun a u ea=>?_,nf6,fD6,hD6,rs.same s36,p6⟩
    by_cases e:a=D
    ·subst e;rw [hD] at ea;cases ea
    ·rw [ab2 e];exact g6 a u (sG a u ea)
   | some y =>
    intro v6 r6
    have sU:Same F6 (upd G6 D (.lst (ys++[v6]))):=fun a u ea=>by
     have:a≠D:=by rintro rfl;rw [fD6] at ea;cases ea
     rw [ab2 this];exact L6.fh a u ea
    refine⟨hD6,_,by omega,rfl,lt,by simp;omega,_,F6,zs++[y],L6.fresh (Same.refl _) sU,s3.trans s36,sU,fun a u ea=>?_,nf6,fD6,ab5,(rs.same s36).append (.one r6),?_⟩
    ·by_cases e:a=D
     ·subst e;rw [hD] at ea;cases ea
     ·rw [ab2 e,ab2 e];exact g6 a u (sG a u ea)
    ·have e2:(fun ws=>P (.own (.lst (zs++[y]++ws))) δ2)=fun ws=>P (.own (.lst (zs++y::ws))) δ2:=by
      funext ws
      rw [append_assoc]
      rfl
     rw [e2]
     exact p6
  ·have e:i=xs.length:=by omega
   subst e
   rw [drop_length] at pc
   refine .inl ⟨it.stop F3 G (s2.trans s3) s3h sG,?_⟩
   have pc:P (.own (.lst (zs++[]))) δ2:=pc
   rw [append_nil] at pc
   have L5:Lk K F0 H0 B σ δ2 F3 G:=L2.grow s3 s3h sG f3
   refine q _ δ2 _ F3 G pc L5 (s1.trans (s2.trans s3)) ⟨D,rfl,fD3,(L2.fr0 hD).1,⟨ys,hD3,rs⟩,fun j o' ej zz=>?_⟩
   obtain⟨a',e1,_,_,w'⟩:=L2.sl j _ ej
   rw [zz] at e1
   cases e1
   obtain⟨ho,eh⟩:=w'.there
   rw [hD] at eh
   cases eh
section
variable {X:Cx}{E:XK}{elt iter tg:Expr}{ifs:List Expr}{xs:List Str}{pos:Pos}{scope:Scope}{fr:List (Str×Nat)}{ti:T3I}{g:T3G}{ts:T3P}
theorem am3 (hc:X.calm=true)(hi:I3c X E tg iter ti)(O:Fr.FrOkV X scope xs fr)
  (hg:∀ (s₀:Shared) (H₀:Hp) (fp:List Addr) (pn:List (Addr×Obj)),G3 (Fr.cxCV X scope xs fr s₀ H₀ fp pn) tg g)
  (hstep:∀ (s₀:Shared) (H₀:Hp) (fp:List Addr) (pn:List (Addr×Obj)),P3 (Fr.cxCV X scope xs fr s₀ H₀ fp pn) ifs elt ts) (hlf:ifs.length≤1:=by decide)
  (hs:∀ y,foldedSetIterable iter X.env y=pure y:=by intro _;rfl):E3 X E (.ListComp elt [⟨tg,iter,ifs,0⟩] scope pos) (tCm xs.length (fr.map (·.2)) ti g ts) :=
 ⟨fun F0 H0 B=>ac4 (Fr.bw1 hc (hi.h F0 H0 B) O (fun s₀ H₀ fp pn=>bi6 (ι:=Hp×Hp×Option Addr) fun i=>(hg s₀ H₀ fp pn).h i.1 i.2.1 i.2.2) (fun s₀ H₀ fp pn=>(hstep s₀ H₀ fp pn).h) hlf hs) fun _ _ _ h=>bd9 h⟩
theorem aC8 (i₀:Nat){y:Str}{py spos:Pos}(hN:X.N.Nodup)(hiy:X.N[i₀]?=some y)(hy:Loc X.env.scope y)(hc:X.calm=true)(hi:I3c X E tg iter ti)(O:Fr.FrOkV X scope xs fr)
  (hg:∀ (s₀:Shared) (H₀:Hp) (fp:List Addr) (pn:List (Addr×Obj)),G3 (Fr.cxCV X scope xs fr s₀ H₀ fp pn) tg g)
  (hstep:∀ (s₀:Shared) (H₀:Hp) (fp:List Addr) (pn:List (Addr×Obj)),P3 (Fr.cxCV X scope xs fr s₀ H₀ fp pn) ifs elt ts) (hlf:ifs.length≤1:=by decide)
  (hsw:swapsWith (.ListComp elt [⟨tg,iter,ifs,0⟩] scope pos) (some (.Name y py)) spos.line X.env=pure true:=by rfl)
  (hf:X.fn y=true∨X.env.scope.names.lookup y=some .local:=by first | exact .inl rfl | exact .inr rfl | assumption)
  (hs:∀ y,foldedSetIterable iter X.env y=pure y:=by intro _;rfl):S3 X E (.Assign [.Name y py] (.ListComp elt [⟨tg,iter,ifs,0⟩] scope pos) spos) (tSt i₀ (tCm xs.length (fr.map (·.2)) ti g ts)) :=
 ⟨fun F0 H0 B=>af8 (Fr.bd8 hN hiy hy hc (hi.h F0 H0 B) O (fun s₀ H₀ fp pn=>bi6 (ι:=Hp×Hp×Option Addr) fun i=>(hg s₀ H₀ fp pn).h i.1 i.2.1 i.2.2) (fun s₀ H₀ fp pn=>(hstep s₀ H₀ fp pn).h) hlf hsw hf hs) fun Dn σ H hh=>ex4 hh fun δ F Z En L z w ok =>
  bd9 ⟨δ,F,Z,_,L,z,w,fun r δ' v F' H' p L' s k=>ok.nx _ _ F' H' p (L'.setR k) s⟩⟩
end
theorem av0 {ts:T3P}{l:List Sl}(hl:l.map Sl.wipe=l)(f:D→D):∀ {xs:List D} {s:Sl} {Q:List D→Prop},(∀ x∈xs,∀ P:Option D→List Sl→Prop,P (some (f x)) (.d x::l)→ts (.d x::l) P)→Q (xs.map f)→ai0 (gNm 0) ts xs (s::l) Q
 | [],_,_,_,q=>q
 | x::xs,s,Q,h,q=>by
  show ts (.d x::l) _
  refine h x mem_cons_self _ ?_
  show ai0 (gNm 0) ts xs (.d x::l.map Sl.wipe) _
  rw [hl]
  exact av0 hl f (fun y hy=>h y (mem_cons_of_mem _ hy)) q
theorem ai1 {ts:T3P}{l:List Sl}(hl:l.map Sl.wipe=l)(f:D→Option D):∀ {xs:List D} {s:Sl} {Q:List D→Prop},(∀ x∈xs,∀ P:Option D→List Sl→Prop,P (f x) (.d x::l)→ts (.d x::l) P)→Q (xs.filterMap f)→ai0 (gNm 0) ts xs (s::l) Q
 | [],_,_,_,q=>q
 | x::xs,s,Q,h,q=>by
  show ts (.d x::l) _
  refine h x mem_cons_self _ ?_
  cases e:f x with
  | none =>
   show ai0 (gNm 0) ts xs (.d x::l.map Sl.wipe) _
   rw [hl]
   refine ai1 hl f (fun y hy=>h y (mem_cons_of_mem _ hy)) ?_
   rw [List.filterMap_cons_none e] at q
   exact q
  | some y =>
   show ai0 (gNm 0) ts xs (.d x::l.map Sl.wipe) _
   rw [hl]
   refine ai1 hl f (fun y hy=>h y (mem_cons_of_mem _ hy)) ?_
   rw [List.filterMap_cons_some e] at q
   exact q
end L3
namespace Fr
open PySem PySem.Spec L2
open PyProof.Rows hiding St
def Ite (K:PySem.W.Frag)(a:Addr):It :=
  ⟨fun i H=>∃ xs x,SqL K H a xs∧xs[i]?=some x,
   fun i H v H'=>∃ T x,v=.ref T∧H T=none∧H'=upd H T (.tup [.int (i:Nat),x])∧∀ xs,SqL K H a xs→xs[i]?=some x,
   fun i H=>∃ xs,SqL K H a xs∧xs.length≤i⟩
theorem bo4 {P:Program}{w:World}{K:PySem.W.Frag}{es:List Expr}{x1}{pos:Pos}{z it a:Addr}(hne:z≠it) :
  Turn P w K (.Tuple es x1 pos) (Ite K a) [z,it] z (fun i h=>(∃ old,IsEnum h z it (i:Nat) old)∧h.IsListIter it a i) where
 mem:=by simp
 obj:=fun i h st c hc=>by
  obtain⟨⟨old,hz⟩,⟨o1,e1,c1,d1⟩⟩:=st
  simp only [mem_cons,not_mem_nil,or_false] at hc
  rcases hc with rfl | rfl
  ·exact⟨_,hz,fun v q=>by cases q⟩
  ·exact⟨_,e1,fun v q=>by rw [d1] at q;cases q⟩
 keep:=fun i h h' st k=>by
  obtain⟨⟨old,hz⟩,h1⟩:=st
  exact⟨⟨old,k z (by simp) _ hz⟩,h1.at fun o e=>k it (by simp) o e⟩
 item:=by
  intro X hP hw hK hc i pins s σ H E I hf st hg
  subst hP hw hK
  obtain⟨xs,x,q1,hx⟩:=hg
  obtain⟨its1,r1,p1,_⟩:=I.list q1
  obtain⟨u1,e1,ru1⟩:=r1.get hx
  obtain⟨⟨old,hz⟩,h1⟩:=st
  refine wpAny_pyNext_enum_item hz h1 p1.isList (x:=u1) (by simpa using e1) hne fun h' hz' h1' hT hsz hk=>⟨_,rfl,?_⟩
  refine wpAny_letOwnedTupleGo_enum hz' fun h'' hz'' hs=>?_
  have ltz:z < s.heap.objs.size:=Heap.lt_size hz
  have nz:s.heap.objs.size≠z:=ne_of_gt ltz
  have nT:H s.heap.objs.size=none:=I.hok.fresh (le_refl _)
  have up:∀ c o,c≠z→h'.get? c=some o→h''.get? c=some o:=fun c o n e=>(hs.2 c n).trans e
  have fnone:∀ c∈[z,it],upd H s.heap.objs.size (.tup [.int (i:Nat),x]) c=none:=fun c hc=>by
   have ne:c≠s.heap.objs.size:=by
    obtain⟨_,e1,_⟩:=id h1
    simp only [mem_cons,not_mem_nil,or_false] at hc
    rcases hc with rfl | rfl
    ·exact ne_of_lt ltz
    ·exact ne_of_lt (Heap.lt_size e1)
   rw [ab2 ne]
   exact (hf c hc).1
  refine⟨.ref s.heap.objs.size,upd H s.heap.objs.size (.tup [.int (i:Nat),x]),aV1 (s:=s) (h':=h'') (t:=s.toks+1) I hf (le_refl _) (fun c o hc e=>?_) ⟨len2,[.int (i:Nat) s.toks,u1],.cons ⟨_,rfl⟩ (.cons ru1 .nil),⟨_,up _ _ nz hT,rfl,_,rfl⟩⟩,rfl,
   ⟨_,x,rfl,nT,rfl,fun xs' z1=>?_⟩,⟨⟨_,by simpa using hz''⟩,h1'.at fun o e=>up _ _ (Ne.symm hne) e⟩,fnone⟩
  ·simp only [mem_cons,not_mem_nil,or_false,not_or] at hc
   exact up _ _ hc.1 (hk _ _ hc.1 hc.2 e)
  ·rw [I.list_inj z1 q1]
   exact hx
 done:=by
  intro X hP hw hK hc i pins s σ H E I hf st hg
  subst hP hw hK
  obtain⟨xs,q1,hend⟩:=hg
  obtain⟨its1,r1,p1,_⟩:=I.list q1
  have n1:=r1.length
  obtain⟨⟨old,hz⟩,h1⟩:=st
  refine wpAny_pyNext_enum_end (I.ok.hd hc) hz h1 p1.isList (by simp;omega) fun h' hk=>⟨rfl,aR2 (t:=s.toks) I hf fun c o hc e=>?_⟩
  simp only [mem_cons,not_mem_nil,or_false,not_or] at hc
  exact hk _ _ hc.2 e
 self:=fun _ _ _ _ _ st h=>wpAny_pyIter_enum st.1.choose_spec h
def ca3 (K:PySem.W.Frag)(ta:TA):TI:=fun σ H R=>ta σ H fun vs H1=>∃ a xs,vs=[.ref a]∧SqL K H1 a xs∧R (Ite K a) H1
section
variable {X:Cx}
theorem bI2 {es:List Expr}{x1}{tpos:Pos}{a:Expr}{ta:TA}{p pos:Pos}(hg:Gl X "enumerate")(hm:X.mg "enumerate"=none)(ha:PA X [a] ta)(hs:starEach [a] X.env=[(false,eval a X.env)]:=by rfl) :
  PI X (.Tuple es x1 tpos) (.Call (.Name "enumerate" p) [a] [] pos) (ca3 X.K ta):=by
 intro pins s σ H R I h
 refine Call_ (as7 I hg hm PyProof.Rows.boot_enumerate (PyProof.Rows.callWith_type1 (thn (ha pos pins s σ H _ I h) fun us s1 ⟨vs,H1,I1,r1,q1⟩=>?_) hs rfl))
 obtain⟨l1,xs,rfl,k1,q⟩:=q1
 obtain⟨u,rfl,ru⟩:=vals1 r1
 cases ru
 obtain⟨its1,e1,p1,_⟩:=I1.list k1
 refine call_enumerate_list p1.isList fun h' hz g1 hsz hk=>?_
 have I2:Inv X pins σ H1 { s1 with heap:=h' }:=I1.kept (t':=s1.toks) hk
 refine wpAny_pyIter_enum hz ⟨_,[s1.heap.objs.size+1,s1.heap.objs.size],_,_,H1,rfl,I2,bo4 (ne_of_gt (Nat.lt_succ_self _)),⟨⟨_,hz⟩,g1⟩,fun c hc=>?_,q⟩
 simp only [mem_cons,not_mem_nil,or_false] at hc
 have hc':s1.heap.objs.size≤c:=by
  rcases hc with rfl | rfl
  ·exact le_succ _
  ·exact le_refl _
 exact I1.fpOk hc' (I1.hok.fresh hc')
end
end Fr
namespace L3
open PySem PySem.Spec L2
section
variable {X:Cx}{E:XK}{e a b c o:Expr}{es:List Expr}{pos p:Pos}
def zipD (xs ys:List D):List D:=(xs.zip ys).map fun q=>D.tup [q.1,q.2]
theorem am9 (xs ys:List D):(zipD xs ys).length=min xs.length ys.length:=by simp [zipD]
def tIZ (t:T3A):T3I:=fun Z δ Q=>t Z δ fun xs δ'=>match xs with
 | [.lst xs,.lst ys]=>Q (zipD xs ys) δ'
 | _=>False
theorem aT6 {tes:List Expr}{x1}{tpos:Pos}{t:T3A}(hg:Gl X "zip")(hm:X.mg "zip"=none)(ha:A3 X E [a,b] t)(hs:starEach [a,b] X.env=[(false,eval a X.env),(false,eval b X.env)]:=by rfl)(hs2:starEach [b] X.env=[(false,eval b X.env)]:=by rfl) :
  I3 X E (.Tuple tes x1 tpos) (.Call (.Name "zip" p) [a,b] [] pos) (tIZ t) :=
 ⟨fun F0 H0 B=>at5 (Fr.bQ3 hg hm (ha.h F0 H0 B) hs hs2) fun σ H R hh=>ex4 hh fun δ F Z P L z w q=>⟨δ,F,Z,_,L,z,w,fun xs δ' vs F' H' p' L' s r=>by
  obtain⟨xs,ys,rfl,pk⟩:=m2L p'
  obtain⟨v,u,rfl,rr1,rr2⟩:=r.inv2
  obtain⟨a1,vs1,rfl,h1,r1⟩:=rr1.inv_lst
  obtain⟨a2,vs2,rfl,h2,r2⟩:=rr2.inv_lst
  have sq:∀ {H2:Hp},Same F' H2→SqL X.K H2 _ _∧SqL X.K H2 _ _:=fun s2=>⟨SqL.of (s2 _ _ h1),SqL.of (s2 _ _ h2)⟩
  refine⟨_,_,_,_,rfl,SqL.of (L'.fh _ _ h1),SqL.of (L'.fh _ _ h2),q _ δ' F' H' _ pk L' s ⟨fun i F2 H2 a1 a2 lt=>?_,fun i F2 H2 y H3 a1 a2 lt yy=>?_,fun F2 H2 a1 a2=>?_⟩⟩
  ·rw [am9] at lt
   obtain⟨v1,e1,_⟩:=r1.at (getElem?_eq_getElem (show i < _ by omega))
   obtain⟨v2,e2,_⟩:=r2.at (getElem?_eq_getElem (show i < _ by omega))
   exact⟨_,_,v1,v2,(sq (a1.trans a2)).1,(sq (a1.trans a2)).2,e1,e2⟩
  ·obtain⟨T,x,y',rfl,hT,rfl,all⟩:=yy
   obtain⟨e1,e2⟩:=all _ _ (sq (a1.trans a2)).1 (sq (a1.trans a2)).2
   obtain⟨d1,f1,g1⟩:=r1.at' e1
   obtain⟨d2,f2,g2⟩:=r2.at' e2
   have fT:F2 T=none:=a2.free hT
   have sF:Same F2 (upd F2 T (.tup [x,y'])):=Fr.Same.new fT
   refine⟨upd F2 T (.tup [x,y']),.tup [d1,d2],sF,fun b u eb=>?_,Fr.Same.new hT,fun b hb=>?_,?_,.tup (SqT.of ab5) (.cons (g1.same (a1.trans sF)) (.cons (g2.same (a1.trans sF)) .nil))⟩
   ·by_cases q:b=T
    ·subst q;rw [ab5] at eb ⊢;exact eb
    ·rw [ab2 q] at eb ⊢;exact a2 _ _ eb
   ·rw [ab2 (by rintro rfl;exact hb hT)]
   ·unfold zipD
    rw [getElem?_map,List.getElem?_zip_eq_some.mpr (show _=some (d1,d2).1∧_=some (d1,d2).2 from ⟨f1,f2⟩)]
    rfl
  ·rw [am9]
   refine⟨_,_,(sq (a1.trans a2)).1,(sq (a1.trans a2)).2,?_⟩
   rw [r1.len,r2.len]
   omega⟩⟩
def av1 (xs:List D):List D:=(List.range xs.length).map fun i:Nat=>D.tup [.int (i:Nat),xs[i]?.getD .non]
theorem al2 (xs:List D):(av1 xs).length=xs.length:=by simp [av1]
def tIE (t:T3A):T3I:=fun Z δ Q=>t Z δ fun xs δ'=>match xs with
 | [.lst xs]=>Q (av1 xs) δ'
 | _=>False
theorem bo5 {tes:List Expr}{x1}{tpos:Pos}{t:T3A}(hg:Gl X "enumerate")(hm:X.mg "enumerate"=none)(ha:A3 X E [a] t)(hs:starEach [a] X.env=[(false,eval a X.env)]:=by rfl) :
  I3 X E (.Tuple tes x1 tpos) (.Call (.Name "enumerate" p) [a] [] pos) (tIE t) :=
 ⟨fun F0 H0 B=>at5 (Fr.bI2 hg hm (ha.h F0 H0 B) hs) fun σ H R hh=>ex4 hh fun δ F Z P L z w q=>⟨δ,F,Z,_,L,z,w,fun xs δ' vs F' H' p' L' s r=>by
  obtain⟨xs,rfl,pk⟩:=m1L p'
  obtain⟨v,rfl,rr⟩:=r.inv1
  obtain⟨a1,vs1,rfl,h1,r1⟩:=rr.inv_lst
  have sq:∀ {H2:Hp},Same F' H2→SqL X.K H2 _ _:=fun s2=>SqL.of (s2 _ _ h1)
  refine⟨_,_,rfl,SqL.of (L'.fh _ _ h1),q _ δ' F' H' _ pk L' s ⟨fun i F2 H2 a1 a2 lt=>?_,fun i F2 H2 y H3 a1 a2 lt yy=>?_,fun F2 H2 a1 a2=>?_⟩⟩
  ·rw [al2] at lt
   obtain⟨v1,e1,_⟩:=r1.at (getElem?_eq_getElem lt)
   exact⟨_,v1,sq (a1.trans a2),e1⟩
  ·obtain⟨T,x,rfl,hT,rfl,all⟩:=yy
   have e1:=all _ (sq (a1.trans a2))
   obtain⟨d1,f1,g1⟩:=r1.at' e1
   have fT:F2 T=none:=a2.free hT
   have sF:Same F2 (upd F2 T (.tup [.int (i:Nat),x])):=Fr.Same.new fT
   refine⟨upd F2 T (.tup [.int (i:Nat),x]),.tup [.int (i:Nat),d1],sF,fun b u eb=>?_,Fr.Same.new hT,fun b hb=>?_,?_,.tup (SqT.of ab5) (.cons (.int _) (.cons (g1.same (a1.trans sF)) .nil))⟩
   ·by_cases q:b=T
    ·subst q;rw [ab5] at eb ⊢;exact eb
    ·rw [ab2 q] at eb ⊢;exact a2 _ _ eb
   ·rw [ab2 (by rintro rfl;exact hb hT)]
   ·rw [al2] at lt
    unfold av1
    rw [getElem?_map,getElem?_range lt]
    show some (D.tup [.int (i:Nat),_])=_
    rw [f1]
    rfl
  ·rw [al2]
   exact⟨_,sq (a1.trans a2),by rw [r1.len];exact le_refl _⟩⟩⟩
mutual
def D.py:D→PyData
 | .non=>.none
 | .bl b=>.bool b
 | .int i=>.int i
 | .str x=>.str x
 | .tup xs=>.tuple (D.pys xs)
 | .lst xs=>.list (D.pys xs)
 | _=>.dict []
def D.pys:List D→List PyData
 | []=>[]
 | x::xs=>x.py::D.pys xs
end
mutual
theorem Rp.isD {K:PySem.W.Frag}{F H:Hp}(s:Same F H):∀ {v:V} {x:D},Rp K F v x→x.py.canLay0=true→Fr.IsD K H v x.py
 | _,_,.non,_=>.non
 | _,_,.bl b,_=>.bl b
 | _,_,.int i,_=>.int i
 | _,_,.str x,_=>.str x
 | _,_,.ty n,h=>by simp [D.py,PyData.canLay0] at h
 | _,_,.adr a,h=>by simp [D.py,PyData.canLay0] at h
 | _,_,.scr _,h=>by simp [D.py,PyData.canLay0] at h
 | _,_,.dT _ _ _,h=>by simp [D.py,PyData.canLay0] at h
 | _,_,.dK _ _ _,h=>by simp [D.py,PyData.canLay0] at h
 | _,_,.obj _ _ _,h=>by simp [D.py,PyData.canLay0] at h
 | _,_,.exc _,h=>by simp [D.py,PyData.canLay0] at h
 | _,_,.tup hs rs,h=>.tup (Fr.ak6 s hs) (Rps.isDs s rs (by simpa [D.py,PyData.canLay0] using h))
 | _,_,.lst hs rs,h=>.lst (SqL.of (s _ _ hs)) (Rps.isDs s rs (by simpa [D.py,PyData.canLay0] using h))
theorem Rps.isDs {K:PySem.W.Frag}{F H:Hp}(s:Same F H):∀ {vs:List V} {xs:List D},Rps K F vs xs→PyData.canLayAll0 (D.pys xs)=true→Fr.IsDs K H vs (D.pys xs)
 | _,_,.nil,_=>.nil
 | _,_,.cons (d:=d) (ds:=ds) r rs,h=>by
  have h':d.py.canLay0=true∧PyData.canLayAll0 (D.pys ds)=true:=by simpa [D.pys,PyData.canLayAll0] using h
  exact .cons (Rp.isD s r h'.1) (Rps.isDs s rs h'.2)
end
def az5 (x:D):Prop:=x.py.canLay0=true∧x.py.depth≤60
def eqD:D→D→(D→Prop)→Prop:=fun x y P=>(az5 x∧az5 y)∧∃ b,PyData.eqv x.py y.py=b∧P (.bl b)
def neD:D→D→(D→Prop)→Prop:=fun x y P=>(az5 x∧az5 y)∧∃ b,PyData.eqv x.py y.py=b∧P (.bl (!b))
theorem ca4 {A:Around}{K:PySem.W.Frag}{k:Nat}(hr:Room k A):R3 K (fun x y H Q=>∃ d d',Fr.IsD K H x d∧Fr.IsD K H y d'∧d.canLay0=true∧d'.canLay0=true∧A.units+d.depth < cLine∧Q (.bl (PyData.eqv d d')) H) eqD:=by
 intro F H x y v u Q P fh rx ry h q
 obtain⟨h1,b,rfl,h2⟩:=h
 exact⟨_,_,rx.isD fh h1.1.1,ry.isD fh h1.2.1,h1.1.1,h1.2.1,Fr.bn0 hr (le_trans h1.1.2 (by decide)),q _ _ h2 (.bl _)⟩
theorem ca5 {A:Around}{K:PySem.W.Frag}{k:Nat}(hr:Room k A):R3 K (fun x y H Q=>∃ d d',Fr.IsD K H x d∧Fr.IsD K H y d'∧d.canLay0=true∧d'.canLay0=true∧A.units+d.depth < cLine∧Q (.bl (!PyData.eqv d d')) H) neD:=by
 intro F H x y v u Q P fh rx ry h q
 obtain⟨h1,b,rfl,h2⟩:=h
 exact⟨_,_,rx.isD fh h1.1.1,ry.isD fh h1.2.1,h1.1.1,h1.2.1,Fr.bn0 hr (le_trans h1.1.2 (by decide)),q _ _ h2 (.bl _)⟩
def tyN:D→Option String
 | .non=>some "NoneType"
 | .bl _=>some "bool"
 | .int _=>some "int"
 | .str _=>some "str"
 | .tup _=>some "tuple"
 | .lst _=>some "list"
 | _=>none
def isiB (t T:String):Bool:=t == T || (t == "bool" && T == "int")
def tOk (T:String):Bool:=T == "int" || T == "bool" || T == "tuple" || T == "list" || T == "str"
theorem bS0 {T:String}(h:tOk T=true):T="int"∨T="bool"∨T="tuple"∨T="list"∨T="str":=by
 unfold tOk at h
 simp only [Bool.or_eq_true,beq_iff_eq] at h
 rcases h with (((h | h) | h) | h) | h
 ·exact .inl h
 ·exact .inr (.inl h)
 ·exact .inr (.inr (.inl h))
 ·exact .inr (.inr (.inr (.inl h)))
 ·exact .inr (.inr (.inr (.inr h)))
def rIsi:List D→(D→Prop)→Prop:=fun xs P=>match xs with
 | [x,.ty T]=>(match tyN x,tOk T with
  | some t,true=>P (.bl (isiB t T))
  | _,_=>False)
 | _=>False
end
section
variable {X:Cx}
theorem bo6:ai5 X (.builtin "isinstance") (fun xs H Q=>∃ x T t b,xs=[x,.ty T]∧(TyOf X.K H x t∨∃ p ys,x=.ref p∧SqT X.K H p ys∧t=.type "tuple")∧kitOne X.K t (.type T)=some b∧Q (.bl b) H):=by
 intro pins s σ H xs us Q I r h
 obtain⟨x,T,t,b,rfl,ty,e,q⟩:=h
 obtain⟨u,w',rfl,r1,r2⟩:=vals2 r
 cases r2
 rcases ty with ty | ⟨p,ys,rfl,sq,rfl⟩
 ·exact bm4 I r1 ty e fun tk=>⟨.bl b,H,I.tok _,rfl,q⟩
 ·cases r1
  obtain⟨its,rv,⟨o,h1,h2,_⟩,_⟩:=I.tuple sq
  exact kia_one kitx_tuple I.kIn ⟨o,h1,h2⟩ e (fun z=>nomatch z) fun tk=>⟨.bl b,H,I.tok _,rfl,q⟩
theorem aw6 {K:PySem.W.Frag}{t T:String}(ht:t="NoneType"∨t="bool"∨t="int"∨t="str"∨t="tuple"∨t="list")(hT:T="int"∨T="bool"∨T="tuple"∨T="list"∨T="str"):kitOne K (.type t) (.type T)=some (isiB t T):=by
 rcases ht with rfl | rfl | rfl | rfl | rfl | rfl <;> rcases hT with rfl | rfl | rfl | rfl | rfl <;> rfl
theorem bI3 {xs:List D}{P:D→Prop}(h:rIsi xs P):∃ x T,xs=[x,.ty T]∧(match tyN x,tOk T with
  | some t,true=>P (.bl (isiB t T))
  | _,_=>False):=by
 unfold rIsi at h
 split at h
 ·exact⟨_,_,rfl,h⟩
 ·exact h.elim
theorem bS1:CR3 X.K (fun xs H Q=>∃ x T t b,xs=[x,.ty T]∧(TyOf X.K H x t∨∃ p ys,x=.ref p∧SqT X.K H p ys∧t=.type "tuple")∧kitOne X.K t (.type T)=some b∧Q (.bl b) H) rIsi:=by
 intro F H xs vs Q P fh rs h q
 obtain⟨x,T,rfl,h0⟩:=bI3 h
 clear h
 have h:=h0
 clear h0
 obtain⟨v,u,rfl,r,r2⟩:=rs.inv2
 obtain rfl:=r2.inv_ty
 cases eT:tOk T with
 | false =>
  rw [eT] at h
  cases e:tyN x <;> (rw [e] at h;exact h.elim)
 | true =>
  have kT:=bS0 eT
  rw [eT] at h
  cases x with
  | non=>exact⟨_,_,_,_,by rw [r.inv_non],.inl .non,aw6 (.inl rfl) kT,q _ _ h (.bl _)⟩
  | bl b=>exact⟨_,_,_,_,by rw [r.inv_bl],.inl (.bl b),aw6 (.inr (.inl rfl)) kT,q _ _ h (.bl _)⟩
  | int i=>exact⟨_,_,_,_,by rw [r.inv_int],.inl (.int i),aw6 (.inr (.inr (.inl rfl))) kT,q _ _ h (.bl _)⟩
  | str x=>exact⟨_,_,_,_,by rw [r.inv_str],.inl (.str x),aw6 (.inr (.inr (.inr (.inl rfl)))) kT,q _ _ h (.bl _)⟩
  | tup ds =>
   obtain⟨a,us,rfl,hs,rr⟩:=r.inv_tup
   exact⟨_,_,_,_,rfl,.inr ⟨_,_,rfl,Fr.ak6 fh hs,rfl⟩,aw6 (.inr (.inr (.inr (.inr (.inl rfl))))) kT,q _ _ h (.bl _)⟩
  | lst ds =>
   obtain⟨a,us,rfl,hs,rr⟩:=r.inv_lst
   exact⟨_,_,_,_,rfl,.inl (.lst (fh _ _ hs)),aw6 (.inr (.inr (.inr (.inr (.inr rfl))))) kT,q _ _ h (.bl _)⟩
  | _=>exact h.elim
end
def keyD:D→Option Key
 | .int i=>some (.inl i)
 | .str x=>some (.inr x)
 | _=>none
def ak4:List D→Option (List Key)
 | []=>some []
 | x::xs=>match keyD x with
  | some k=>(match ak4 xs with
   | some ks=>some (k::ks)
   | none=>none)
  | none=>none
theorem aw7 {K:PySem.W.Frag}{F:Hp}:∀ {vs:List V} {xs:List D} {ks:List Key},Rps K F vs xs→ak4 xs=some ks→vs=ks.map kV
 | _,_,_,.nil,h=>by cases h;rfl
 | _,_,_,.cons (d:=d) (ds:=ds) r rs,h=>by
  unfold ak4 at h
  cases ek:keyD d with
  | none=>rw [ek] at h;cases h
  | some k =>
   rw [ek] at h
   dsimp only at h
   cases e2:ak4 ds with
   | none=>rw [e2] at h;cases h
   | some ks =>
    rw [e2] at h
    cases h
    rw [aw7 rs e2]
    cases r <;> first | cases ek;rfl | cases ek
def valD {κ:Type}[DecidableEq κ]:List (κ×D)→κ→Option D
 | [],_=>none
 | (k,x)::r,j=>if k=j then some x else valD r j
def putT {κ:Type}[DecidableEq κ](kvs:List (κ×D))(k:κ)(x:D):List (κ×D):=if (valD kvs k).isSome then kvs.map (fun kv=>if kv.1=k then (kv.1,x) else kv) else kvs++[(k,x)]
section
variable {κ:Type}[DecidableEq κ]{K:PySem.W.Frag}{F:Hp}
theorem aL4 {k:κ}:∀ {kvs:List (κ×V)} {dvs:List (κ×D)},kvs.map (·.1)=dvs.map (·.1)→Rps K F (kvs.map (·.2)) (dvs.map (·.2)) →
  (valD dvs k=none∧valV kvs k=none)∨∃ x v,valD dvs k=some x∧valV kvs k=some v∧Rp K F v x
 | [],[],_,_=>.inl ⟨rfl,rfl⟩
 | [],_::_,e,_=>by cases e
 | _::_,[],e,_=>by cases e
 | (n,u)::kvs,(m,d)::dvs,e,r=>by
  obtain⟨e1,e2⟩:=List.cons.inj e
  have e1:n=m:=e1
  subst e1
  cases r with
  | cons r1 r2 =>
   unfold valD
   by_cases q:n=k
   ·rw [if_pos q]
    exact .inr ⟨d,u,rfl,ay7 q,r1⟩
   ·rw [if_neg q,ay8 (show ¬ (n,u).1=k from q)]
    exact aL4 e2 r2
theorem be0 {k:κ}{v:V}{x:D}(r:Rp K F v x):∀ {kvs:List (κ×V)} {dvs:List (κ×D)},kvs.map (·.1)=dvs.map (·.1)→Rps K F (kvs.map (·.2)) (dvs.map (·.2)) →
  (kvs.map (fun kv=>if kv.1=k then (kv.1,v) else kv)).map (·.1)=(dvs.map (fun kv=>if kv.1=k then (kv.1,x) else kv)).map (·.1)∧Rps K F ((kvs.map (fun kv=>if kv.1=k then (kv.1,v) else kv)).map (·.2)) ((dvs.map (fun kv=>if kv.1=k then (kv.1,x) else kv)).map (·.2))
 | [],[],_,_=>⟨rfl,.nil⟩
 | [],_::_,e,_=>by cases e
 | _::_,[],e,_=>by cases e
 | (n,u)::kvs,(m,d)::dvs,e,rr=>by
  obtain⟨e1,e2⟩:=List.cons.inj e
  have e1:n=m:=e1
  subst e1
  cases rr with
  | cons r1 r2 =>
   obtain⟨k1,k2⟩:=be0 (k:=k) r e2 r2
   by_cases q:n=k
   ·refine⟨?_,?_⟩
    ·rw [map_cons,map_cons,map_cons,map_cons,k1,if_pos (show (n,u).1=k from q),if_pos (show (n,d).1=k from q)]
    ·rw [map_cons,map_cons,map_cons,map_cons,if_pos (show (n,u).1=k from q),if_pos (show (n,d).1=k from q)]
     exact .cons r k2
   ·refine⟨?_,?_⟩
    ·rw [map_cons,map_cons,map_cons,map_cons,k1,if_neg (show ¬ (n,u).1=k from q),if_neg (show ¬ (n,d).1=k from q)]
    ·rw [map_cons,map_cons,map_cons,map_cons,if_neg (show ¬ (n,u).1=k from q),if_neg (show ¬ (n,d).1=k from q)]
     exact .cons r1 k2
theorem bI4 {k:κ}{v:V}{x:D}(r:Rp K F v x){kvs:List (κ×V)}{dvs:List (κ×D)}(e:kvs.map (·.1)=dvs.map (·.1))(rr:Rps K F (kvs.map (·.2)) (dvs.map (·.2))) :
  (putK kvs k v).map (·.1)=(putT dvs k x).map (·.1)∧Rps K F ((putK kvs k v).map (·.2)) ((putT dvs k x).map (·.2)):=by
 unfold putT
 rcases aL4 (k:=k) e rr with ⟨h1,h2⟩ | ⟨y,u,h1,h2,_⟩
 ·rw [h1,if_neg (by simp),bv6 v h2]
  refine⟨by simp [e],?_⟩
  rw [map_append,map_append]
  exact rr.append (.one r)
 ·rw [h1,if_pos (by simp)]
  have:putK kvs k v=kvs.map (fun kv=>if kv.1=k then (kv.1,v) else kv):=by
   unfold putK
   rw [ay9,h2]
   rfl
  rw [this]
  exact be0 r e rr
end
section
variable {X:Cx}{E:XK}{e a b c o:Expr}{es:List Expr}{pos p:Pos}
def tDnT:T3E:=fun _ δ Q=>Q (.own (.dT [])) δ
theorem bI5:E3 X E (.Dict [] [] pos) tDnT :=
 ⟨fun F0 H0 B=>ac4 bv8 fun σ H Q hh=>ex4 hh fun δ F Z P L z w q=>fun a ha=>by
  obtain⟨L2,k2⟩:=L.newO (ho:=.dT []) ha (o:=.dT []) ⟨[],ab5,rfl,.nil⟩
  exact q _ δ _ _ _ w L2 (Same.refl _) k2⟩
def Sl.dict:Sl→Option (List (List Key×D))
 | .d (.dT kvs)=>some kvs
 | .own (.dT kvs)=>some kvs
 | .bor (.dT kvs)=>some kvs
 | _=>none
def gd (δ:List Sl)(i:Nat):Option (List (List Key×D)):=match δ[i]? with
 | some s=>s.dict
 | none=>none
theorem Lk.gd {K:PySem.W.Frag}{F0 H0 F H:Hp}{B:Option Addr}{σ:St}{δ:List Sl}{i:Nat}{dvs:List (List Key×D)}(L:Lk K F0 H0 B σ δ F H)(l:gd δ i=some dvs) :
  ∃ a kvs,σ[i]?=some (some (.ref a))∧H a=some (.dT kvs)∧kvs.map (·.1)=dvs.map (·.1)∧Rps K F (kvs.map (·.2)) (dvs.map (·.2)):=by
 unfold L3.gd at l
 cases e:δ[i]? with
 | none=>rw [e] at l;cases l
 | some s =>
  rw [e] at l
  have q:=L.sl i s e
  cases s with
  | un=>cases l
  | d x =>
   cases x with
   | dT ys =>
    cases l
    obtain⟨v,e1,r⟩:=q
    cases r with
    | dT hs ek rs=>exact⟨_,_,e1,L.fh _ _ hs,ek,rs⟩
   | _=>cases l
  | own o =>
   cases o with
   | dT ys =>
    cases l
    obtain⟨a,e1,_,_,kvs,hh,ek,rs⟩:=q
    exact⟨a,kvs,e1,hh,ek,rs⟩
   | _=>cases l
  | bor o =>
   cases o with
   | dT ys =>
    cases l
    obtain⟨a,e1,_,_,kvs,hh,ek,rs⟩:=q
    exact⟨a,kvs,e1,hh,ek,rs⟩
   | _=>cases l
def tDin (neg:Bool)(t:T3A)(i:Nat):T3D:=fun Z δ Q=>t Z δ fun xs δ'=>Few xs.length (match ak4 xs,gd δ' i with
 | some ks,some dvs=>Q (.bl (if neg then !(valD dvs ks).isSome else (valD dvs ks).isSome)) δ'
 | _,_=>False)
theorem aR8 {K:PySem.W.Frag}{F:Hp}{ks:List Key}{kvs:List (List Key×V)}{dvs:List (List Key×D)}(e:kvs.map (·.1)=dvs.map (·.1))(r:Rps K F (kvs.map (·.2)) (dvs.map (·.2))):(valV kvs ks).isSome=(valD dvs ks).isSome:=by
 rcases aL4 (k:=ks) e r with ⟨h1,h2⟩ | ⟨y,u,h1,h2,_⟩ <;> rw [h1,h2] <;> rfl
theorem bS2 {K:PySem.W.Frag}{F0 H0:Hp}{B:Option Addr}{neg:Bool}{t:T3A}{i:Nat}{σ:St}{H:Hp}{Q:VK}(h:LD K E F0 H0 B (tDin neg t i) σ H Q) :
  tTup (LA K E F0 H0 B t) σ H fun y H1=>tVar i σ H1 fun x H2=>∃ a o,x=.ref a∧DGet H2 a y o∧Q (.bl (if neg then !o.isSome else o.isSome)) H2:=by
 obtain⟨δ,F,Z,P,L,z,w,q⟩:=h
 refine⟨δ,F,Z,_,L,z,w,fun xs δ' vs F' H' p' L' s r=>?_⟩
 obtain⟨n,p'⟩:=few p'
 refine⟨by rw [r.len];exact le_of_lt (af7 n),fun ad had=>?_⟩
 cases ek:ak4 xs with
 | none=>rw [ek] at p';exact p'.elim
 | some ks =>
  rw [ek] at p'
  cases eg:L3.gd δ' i with
  | none=>rw [eg] at p';exact p'.elim
  | some dvs =>
   rw [eg] at p'
   obtain⟨a,kvs,e1,hh,em,rs⟩:=L'.gd eg
   obtain⟨L2,s2⟩:=L'.newD (ho:=.tup vs) had
   have ev:=aw7 r ek
   refine⟨_,e1,a,_,rfl,DGet.t (k:=ks) (Fr.Same.new had _ _ hh) (by rw [ev];exact ab5),?_⟩
   rw [aR8 em rs]
   exact q _ δ' _ _ _ p' L2 (s.trans s2) (.bl _)
structure Q3 (X:Cx) (E:XK) (op:CmpOp) (a b:Expr) (t:T3D):Prop where
 h:∀ F0 H0 B,PC X op a b (LD X.K E F0 H0 B t)
theorem bo7 {op:CmpOp}{t t':TE}(h:PC X op a b t)(i:∀ σ H Q,t' σ H Q→t σ H Q):PC X op a b t':=fun pins s σ H Q I w=>h pins s σ H Q I (i _ _ _ w)
theorem d_pc {op:CmpOp}{t:T3D}(h:Q3 X E op a b t)(hm:behindInMarks op b=false):D3 X E (.Compare a [op] [b] pos) t:=⟨fun F0 H0 B=>bN9 (h.h F0 H0 B) hm⟩
theorem c_pc {op:CmpOp}{t:T3D}(h:Q3 X E op a b t)(hm:behindInMarks op b=false):C3 X E (.Compare a [op] [b] pos) (tB3 t) :=
 ⟨fun F0 H0 B=>aw1 (bO0 (h.h F0 H0 B) hm) fun σ H Q hh=>ex4 hh fun δ F Z P L z w q=>⟨δ,F,Z,_,L,z,w,fun x δ' v F' H' p L' s r=>by
  obtain⟨c,rfl,k⟩:=aC3 p
  exact⟨c,r.inv_bl,q _ δ' F' H' k L' s⟩⟩⟩
theorem bw2 (i:Nat){x:Str}{x1}{tp:Pos}{t:T3A}(hu:X.A.units+1 < cLine)(h:A3 X E es t)(hN:X.N[i]?=some x:=by rfl)(hv:Vis X.env.scope x:=by first | exact Or.inl rfl | exact Or.inr (Or.inl rfl) | exact Or.inr (Or.inr rfl))(hd:(x == ("__debug__" : Str))=false:=by decide)
  (hcd:(x == ("__classdict__" : Str))=false:=by decide):Q3 X E .NotIn (.Tuple es x1 tp) (.Name x p) (tDin true t i) :=
 ⟨fun F0 H0 B=>bo7 (bn5 hu (aB5 (h.h F0 H0 B)) (ae3 hN hv hd hcd)) fun _ _ _ h=>bS2 h⟩
def bD2 (neg:Bool)(t:T3A)(td:T3D):T3D:=fun Z δ Q=>t Z δ fun xs δ1=>Few xs.length (td Z δ1 fun y δ2=>match ak4 xs,y with
 | some ks,.dT dvs=>Q (.bl (if neg then !(valD dvs ks).isSome else (valD dvs ks).isSome)) δ2
 | _,_=>False)
theorem bI6 {K:PySem.W.Frag}{F0 H0:Hp}{B:Option Addr}{neg:Bool}{t:T3A}{td:T3D}{σ:St}{H:Hp}{Q:VK}(h:LD K E F0 H0 B (bD2 neg t td) σ H Q) :
  tTup (LA K E F0 H0 B t) σ H fun y H1=>LD K E F0 H0 B td σ H1 fun x H2=>∃ a o,x=.ref a∧DGet H2 a y o∧Q (.bl (if neg then !o.isSome else o.isSome)) H2:=by
 obtain⟨δ,F,Z,P,L,z,w,q⟩:=h
 refine⟨δ,F,Z,_,L,z,w,fun xs δ' vs F' H' p' L' s r=>?_⟩
 obtain⟨n,p'⟩:=few p'
 refine⟨by rw [r.len];exact le_of_lt (af7 n),fun ad had=>?_⟩
 obtain⟨L2,s2⟩:=L'.newD (ho:=.tup vs) had
 refine⟨δ',_,Z,_,L2,z,p',fun y δ2 v F3 H3 p3 L3 s3 r3=>?_⟩
 cases ek:ak4 xs with
 | none=>rw [ek] at p3;exact p3.elim
 | some ks =>
  rw [ek] at p3
  cases r3 with
  | dT hs em rs =>
   have ev:=aw7 r ek
   have hb:H3 ad=some (.tup (ks.map kV)):=by rw [← ev];exact L3.fh _ _ (s3 _ _ ab5)
   refine⟨_,_,rfl,DGet.t (k:=ks) (L3.fh _ _ hs) hb,?_⟩
   rw [aR8 em rs]
   exact q _ δ2 _ _ _ p3 L3 ((s.trans s2).trans s3) (.bl _)
  | _=>exact p3.elim
theorem bS3 {x1}{tp:Pos}{t:T3A}{td:T3D}(hu:X.A.units+1 < cLine)(h:A3 X E es t)(hd:D3 X E o td):Q3 X E .In (.Tuple es x1 tp) o (bD2 false t td) :=
 ⟨fun F0 H0 B=>bo7 (bQ9 hu (aB5 (h.h F0 H0 B)) (hd.h F0 H0 B)) fun _ _ _ h=>bI6 h⟩
def tDgD (td:T3D)(t:T3A):T3D:=fun Z δ Q=>td Z δ fun y δ1=>t Z δ1 fun xs δ2=>Few xs.length (match ak4 xs,y with
 | some ks,.dT dvs=>∃ v,valD dvs ks=some v∧Q v δ2
 | _,_=>False)
theorem bI7 {x1}{tp:Pos}{t:T3A}{td:T3D}(hu:X.A.units+1 < cLine)(hd:D3 X E o td)(h:A3 X E es t)(hs:NoSl (.Tuple es x1 tp):=by exact fun _ _=>rfl):D3 X E (.Subscript o (.Tuple es x1 tp) pos) (tDgD td t) :=
 ⟨fun F0 H0 B=>ac4 (bH4 hu (hd.h F0 H0 B) (aB5 (h.h F0 H0 B)) hs) fun σ H Q hh=>ex4 hh fun δ F Z P L z w q=>⟨δ,F,Z,_,L,z,w,fun y δ1 v F1 H1 p1 L1 s1 r1=>⟨δ1,F1,Z,_,L1,z,p1,fun xs δ2 vs F2 H2 p2 L2 s2 r2=>by
  obtain⟨n,p2⟩:=few p2
  refine⟨by rw [r2.len];exact le_of_lt (af7 n),fun ad had=>?_⟩
  obtain⟨L3,s3⟩:=L2.newD (ho:=.tup vs) had
  cases ek:ak4 xs with
  | none=>rw [ek] at p2;exact p2.elim
  | some ks =>
   rw [ek] at p2
   cases r1.same (s2.trans s3) with
   | dT hs' em rs =>
    obtain⟨v,hv,pv⟩:=p2
    have ev:=aw7 r2 ek
    rcases aL4 (k:=ks) em rs with ⟨h1,_⟩ | ⟨x,u,h1,h2,ru⟩
    ·rw [hv] at h1;cases h1
    ·rw [hv] at h1
     cases h1
     refine⟨_,u,rfl,?_,q _ δ2 _ _ _ pv L3 ((s1.trans s2).trans s3) ru⟩
     rw [← h2]
     exact DGet.t (k:=ks) (L3.fh _ _ hs') (by rw [ev];exact ab5)
   | _=>exact p2.elim⟩⟩⟩
def tDp (i:Nat)(t:T3A)(tv:T3D):T3S:=fun Z En δ=>tv Z δ fun x δ1=>match go δ1 i with
 | some (.dT _)=>t Z δ1 fun xs δ2=>Few xs.length (match ak4 xs,go δ2 i with
  | some ks,some (.dT dvs)=>dvs.length≤1000000∧En.nx (pt δ2 i (.dT (putT dvs ks x)))
  | _,_=>False)
 | _=>False
theorem bS4 (i:Nat){x:Str}{x1}{tp tpos:Pos}{t:T3A}{tv:T3D}(hu:X.A.units+1 < cLine)(h:A3 X E es t)(hv':D3 X E e tv)(hN:X.N[i]?=some x:=by rfl)(hv:Vis X.env.scope x:=by first | exact Or.inl rfl | exact Or.inr (Or.inl rfl) | exact Or.inr (Or.inr rfl))(hd:(x == ("__debug__" : Str))=false:=by decide)
  (hcd:(x == ("__classdict__" : Str))=false:=by decide) (hs:swapsWith e (some (.Subscript (.Name x p) (.Tuple es x1 tp) tpos)) pos.line X.env=pure false:=by rfl):S3 X E (.Assign [.Subscript (.Name x p) (.Tuple es x1 tp) tpos] e pos) (tDp i t tv) :=
 ⟨fun F0 H0 B=>af8 (bH5 hu (ae3 hN hv hd hcd) (aB5 (h.h F0 H0 B)) (hv'.h F0 H0 B) hs) fun Dn σ H hh=>ex4 hh fun δ F Z En L z w ok=>⟨δ,F,Z,_,L,z,w,fun y δ1 v F1 H1 p1 L1 s1 r1=>by
  cases e0:L3.go δ1 i with
  | none=>rw [e0] at p1;exact p1.elim
  | some ob =>
   rw [e0] at p1
   cases ob with
   | dT dvs0 =>
    obtain⟨a,e1,f1,_,_⟩:=L1.go e0
    refine⟨_,e1,δ1,F1,Z,_,L1,z,p1,fun xs δ2 vs F2 H2 p2 L2 s2 r2=>?_⟩
    obtain⟨n,p2⟩:=few p2
    refine⟨by rw [r2.len];exact le_of_lt (af7 n),fun ad had=>?_⟩
    obtain⟨L4,s3⟩:=L2.newD (ho:=.tup vs) had
    cases ek:ak4 xs with
    | none=>rw [ek] at p2;exact p2.elim
    | some ks =>
     rw [ek] at p2
     cases e2:L3.go δ2 i with
     | none=>rw [e2] at p2;exact p2.elim
     | some ob2 =>
      rw [e2] at p2
      cases ob2 with
      | dT dvs =>
       obtain⟨a',e3,f3,⟨kvs,h3,em,rs⟩,up⟩:=Lk.go L4 e2
       rw [e1] at e3
       cases e3
       obtain⟨k1,k2⟩:=bI4 (k:=ks) (r1.same (s2.trans s3)) em rs
       have ev:=aw7 r2 ek
       have lk:kvs.length=dvs.length:=by have:=congrArg length em;simpa using this
       refine⟨a,_,rfl,DPut.t (k:=ks) h3 (by rw [← ev];exact ab5) (by rw [lk];exact af7 p2.1),?_⟩
       exact ok.nx _ _ _ _ p2.2 (up _ _ ⟨_,ab5,k1,k2⟩) ((s1.trans s2).trans s3)
      | _=>exact p2.elim
   | _=>exact p1.elim⟩⟩
def tRs (C:Addr)(t:T3A):T3S:=fun Z _ δ=>t Z δ fun xs δ'=>Few xs.length (Z C δ')
end
section
variable {P:Program}{w:World}{K:PySem.W.Frag}{mg:Str→Option Value}{base:Heap}{N:List Str}{qual:Str}{scope:Scope}{f:Addr}{cd:Value}{A:Around}{outer:List Env}{s:Shared}{H:Hp}{E:XK}{x:Str}{C:Addr}{e₀:Expr}{rest:List Expr}{ta:T3A}
theorem be1 {np cpos pos:Pos}(hg:Gl (cxOf (Fr.CX1 P w) P w K mg base N qual scope f cd A outer s H E) x)(hm:mg x=some (.ref C))(q:excIn K C Fr.bmVE "ValueError.__new__"=true)(ha:A3 (cxOf (Fr.CX1 P w) P w K mg base N qual scope f cd A outer s H E) E (e₀::rest) ta)
  (he:starEach (e₀::rest) (cxOf (Fr.CX1 P w) P w K mg base N qual scope f cd A outer s H E).env=(false,eval e₀ (cxOf (Fr.CX1 P w) P w K mg base N qual scope f cd A outer s H E).env)::starEach rest (cxOf (Fr.CX1 P w) P w K mg base N qual scope f cd A outer s H E).env:=by rfl)
  (hpl:(backTo cpos (starEach rest (cxOf (Fr.CX1 P w) P w K mg base N qual scope f cd A outer s H E).env)).any (·.1)=false:=by rfl) (hdb:(x == ("__debug__" : Str))=false:=by decide) :
  S3 (cxOf (Fr.CX1 P w) P w K mg base N qual scope f cd A outer s H E) E (.Raise (some (.Call (.Name x np) (e₀::rest) [] cpos)) none pos) (tRs C ta) :=
 ⟨fun F0 H0 B=>af8 (Fr.bv5 hg hm q (ha.h F0 H0 B) he hpl hdb) fun Dn σ H1 hh=>ex4 hh fun δ F Z En L z w ok=>⟨δ,F,Z,_,L,z,w,fun xs δ' vs F' H' p' L' s r=>by
  obtain⟨n,p'⟩:=few p'
  exact⟨by rw [r.len];exact le_of_lt (af7 n),z C σ δ' F' H' L' p'⟩⟩⟩
end
section
variable {P:Program}{w:World}{K:PySem.W.Frag}{mg:Str→Option Value}{base:Heap}{k:Nat}{f:Addr}{fd:FuncData}{ps:List Str}
theorem bS5 {sp sp':Sp}(F:FnOk P w K mg base (Fr.CX1 P w) k f fd ps sp)(h:∀ vs H Q E,sp' vs H Q E→sp vs H Q E0):FnOk P w K mg base CX0 k f fd ps sp' :=
 ⟨fun vs H Q E q=>F.len vs H Q E0 (h _ _ _ _ q),fun A outer s H args us vs Q E hr he hb hv hs=>codeAny_mono (F.run A outer s H args us vs Q E0 hr he hb hv (h _ _ _ _ hs)) fun r s' q=>by
  cases r with
  | error e =>
   obtain⟨x,C,H',_,_,_,_,_,_,z⟩:=q
   exact z
  | ok fl=>cases fl <;> exact q⟩
def aT7 (K:PySem.W.Frag):Sp:=fun vs H Q _=>∃ (a:Addr) (ns:List Int),vs=[.ref a]∧SqL K H a (ns.map V.int)∧ns.length≤63∧Tb K H∧∀ H',Tb K H'→Q (.bl true) H'
def bS6:Sp3:=fun δ Q _=>match δ with
 | [.d (.scr ns)]=>ns.length≤63∧∀ ob,Q (.d (.bl true)) ob
 | _=>False
end
theorem bS7 {P:Program}{w:World}{K:PySem.W.Frag}{mg:Str→Option Value}{base:Heap}{k:Nat}{f:Addr}{fd:FuncData}{ps:List Str}{sp:Sp3}(F:FnOk P w K mg base (Fr.CX1 P w) k f fd ps (lsp K sp))
  (h:∀ ns:List Int,ns.length≤63→∀ Q:Rv→Option Ob→Prop,(∀ ob,Q (.d (.bl true)) ob)→sp [.d (.scr ns)] Q (fun _ _=>False)):FnOk P w K mg base CX0 k f fd ps (aT7 K):=by
 refine bS5 F fun vs H Q E ⟨a,ns,e,sq,len,tb,q⟩=>?_
 subst e
 refine⟨H,none,_,fun r _=>r=.d (.bl true),fun _ _=>False,Lk.args tb (Same.refl _) (.one (.scr sq)),h ns len _ (fun _=>rfl),fun r ob v F' H' e f k=>?_,fun _ _ _ _ z=>z.elim⟩
 subst e
 cases k
 exact q H' (tb.same (f.f0.trans f.fh))
section
variable {X:Cx}{E:XK}{e a b c o:Expr}{es:List Expr}{pos p:Pos}
def gFd (C:Addr)(f:Str)(i:Nat):T3G:=fun x δ Q=>match go δ i with
 | some (.ins C' fs)=>C'=C∧fs.length < 100∧Q (pt δ i (.ins C' (putD f x fs)))
 | _=>False
theorem bD3 (i:Nat){C:Addr}{f x:Str}{pos':Pos}(c:Cls X.K C)(n:NoAttr X.K C f)(hN:X.N[i]?=some x:=by rfl)(hv:Vis X.env.scope x:=by first | exact Or.inl rfl | exact Or.inr (Or.inl rfl) | exact Or.inr (Or.inr rfl))(hd:(x == ("__debug__" : Str))=false:=by decide)
  (hcd:(x == ("__classdict__" : Str))=false:=by decide):G3 X (.Attribute (.Name x p) f pos') (gFd C f i) :=
 ⟨fun F0 H0 B=>by
  intro pins s σ H v u Q I r ⟨δ,F,y,P,L,ry,w,q⟩
  unfold gFd at w
  cases e0:L3.go δ i with
  | none=>rw [e0] at w;exact w.elim
  | some ob =>
   rw [e0] at w
   cases ob with
   | ins C' fs =>
    obtain⟨rfl,hl,w⟩:=w
    obtain⟨a,e1,f1,⟨dx,vs,hh,ek,rs⟩,up⟩:=L.go e0
    obtain⟨k1,k2⟩:=aW1 (f:=f) ry ek rs
    have lv:vs.length=fs.length:=by have:=congrArg length ek;simpa using this
    rw [PySem.assign_Attribute]
    refine wpAny_bind (wpAny_holding (thn (ae3 (pos:=p) hN hv hd hcd pins s σ H (fun x H1=>x=.ref a∧H1=H) I ⟨_,e1,rfl,rfl⟩) fun ov s1 ⟨x1,H1,I1,rx,ex,eH⟩=>?_))
    subst ex eH
    obtain rfl:ov=Value.ref a:=rx
    refine wpAny_bind (wpAny_standAt (wpAny_bind (wpAny_holding (aK0 I1 hh c n (by omega) r fun s2 I2=>?_))))
    exact wpAny_release ⟨σ,_,I2,q _ _ F _ w (up _ _ ⟨dx,_,ab5,k1,k2⟩) (Same.refl _)⟩
   | _=>exact w.elim⟩
end
structure Bt (mg:Str→Option Value):Prop extends Fr.Bi mg where
 enumerate:mg "enumerate"=none
 sum:mg "sum"=none
 sorted:mg "sorted"=none
 any:mg "any"=none
 dict:mg "dict"=none
 reversed:mg "reversed"=none
theorem ai3 {A:Around}{k:Nat}(hr:Room k A):A.units+1 < cLine:=bY4 hr
end L3
namespace L3
theorem ae0 {g:T3G}{tb:T3S}{Z:Zk}{En:En}(I:Nat→List Sl→Prop):∀ {xs:List D} {δ:List Sl},I 0 δ →
  (∀ (i:Nat) (x:D) (δ:List Sl) (N:List Sl→Prop),xs[i]?=some x→I i δ→(∀ δ',I (i+1) δ'→N δ')→g x δ fun δ1=>tb Z { nx:=N,ct:=N,bk:=En.nx,rt:=En.rt } δ1) →
  (∀ δ,I xs.length δ→En.nx δ)→forL g tb Z En xs δ:=by
 intro xs δ h0 step done
 have key:∀ (m i:Nat) (δ:List Sl),m=xs.length - i→i≤xs.length→I i δ→forL g tb Z En (xs.drop i) δ:=by
  intro m
  induction m with
  | zero =>
   intro i δ hm hi hI
   have:i=xs.length:=by omega
   subst this
   rw [drop_length]
   exact done δ hI
  | succ m ih =>
   intro i δ hm hi hI
   have lt:i < xs.length:=by omega
   rw [drop_eq_getElem_cons lt]
   exact step i _ δ _ (getElem?_eq_getElem lt) hI fun δ' h'=>ih (i+1) δ' (by omega) lt h'
 have:=key xs.length 0 δ (by simp) (zero_le _) h0
 rwa [List.drop_zero] at this
theorem ar6 {g:T3G}{tb:T3S}{Z:Zk}{En:En}(I:Nat→List Sl→Prop){lo:Int}{n:Nat}{δ:List Sl}(h0:I 0 δ)
  (step:∀ (i:Nat) (δ:List Sl) (N:List Sl→Prop),i < n→I i δ→(∀ δ',I (i+1) δ'→N δ')→g (.int (lo+(i:Int))) δ fun δ1=>tb Z { nx:=N,ct:=N,bk:=En.nx,rt:=En.rt } δ1)
  (done:∀ δ,I n δ→En.nx δ):forL g tb Z En (rngD lo n) δ:=by
 refine ae0 I h0 (fun i x δ N hx hI hN=>?_) (by rw [ah8];exact done)
 have lt:i < n:=by
  have:=(List.getElem?_eq_some_iff.mp hx).1
  rwa [ah8] at this
 rw [bd4 lt] at hx
 cases hx
 exact step i δ N lt hI hN
theorem fitN {a:Nat}(h:a < 2 ^ 64):Fit (a:Int):=by
 show (a:Int).natAbs < 2 ^ 65536
 rw [Int.natAbs_natCast]
 exact lt_of_lt_of_le h (pow_le_pow_right (by decide) (by decide))
theorem fitI {a:Int}(h:a.natAbs < 2 ^ 64):Fit a:=lt_of_lt_of_le h (pow_le_pow_right (by decide) (by decide))
end L3
namespace L3
open PySem PySem.Spec L2
theorem bI8 {X:Cx}{E:XK}{pos:Pos}{x:Str}{i:Int}{t:Tok}(hg:Gl X x)(hm:X.mg x=some (.int i t))(hd:(x == ("__debug__" : Str))=false:=by decide):D3 X E (.Name x pos) (tK (.int i)) :=
 bn7 (v:=.int i) hg hm ⟨t,rfl⟩ (fun _=>.int i) hd
def Sl.pk:Sl→Option D
 | .d x=>some x
 | .own o=>o.frz
 | .bor o=>o.frz
 | .un=>none
def pk (δ:List Sl)(i:Nat):Option D:=match δ[i]? with
 | some s=>s.pk
 | none=>none
theorem OwnOk.frz' {K:PySem.W.Frag}{F Fp H:Hp}{a:Addr}{o:Ob}{x:D}(h:OwnOk K F H a o)(e:o.frz=some x)(s1:Same F Fp)(s2:Same Fp H):∃ Fq,Same Fp Fq∧Same Fq H∧Rp K Fq (.ref a) x:=by
 obtain⟨ho,eh⟩:=h.there
 have sU:Same Fp (upd Fp a ho):=fun b u e=>by
  by_cases q:b=a
  ·subst q;rw [ab5];rw [s2 _ _ e] at eh;exact eh.symm
  ·rw [ab2 q];exact e
 have sH:Same (upd Fp a ho) H:=fun b u e=>by
  by_cases q:b=a
  ·subst q;rw [ab5] at e;rw [eh];exact e
  ·rw [ab2 q] at e;exact s2 _ _ e
 refine⟨upd Fp a ho,sU,sH,?_⟩
 have s:=s1.trans sU
 cases o with
 | lst xs=>obtain⟨vs,e1,r⟩:=h;cases e;rw [eh] at e1;cases e1;exact .lst ab5 (r.same s)
 | dT kvs=>obtain⟨vs,e1,k,r⟩:=h;cases e;rw [eh] at e1;cases e1;exact .dT ab5 k (r.same s)
 | dK kvs=>obtain⟨vs,e1,k,r⟩:=h;cases e;rw [eh] at e1;cases e1;exact .dK ab5 k (r.same s)
 | ins C fs=>obtain⟨dx,vs,e1,k,r⟩:=h;cases e;rw [eh] at e1;cases e1;exact .obj ab5 k (r.same s)
 | pu=>cases e
theorem Lk.pk {K:PySem.W.Frag}{F0 H0 F H Fp:Hp}{B:Option Addr}{σ:St}{δ:List Sl}{i:Nat}{x:D}(L:Lk K F0 H0 B σ δ F H)(s1:Same F Fp)(s2:Same Fp H)(e:pk δ i=some x):∃ v Fq,σ[i]?=some (some v)∧Same Fp Fq∧Same Fq H∧Rp K Fq v x:=by
 unfold L3.pk at e
 cases q:δ[i]? with
 | none=>rw [q] at e;cases e
 | some s =>
  rw [q] at e
  have z:=L.sl i s q
  cases s with
  | un=>cases e
  | d y=>cases e;obtain⟨v,e1,r⟩:=z;exact⟨v,Fp,e1,Same.refl _,s2,r.same s1⟩
  | own o =>
   obtain⟨a,e1,_,_,w⟩:=z
   obtain⟨Fq,a1,a2,a3⟩:=w.frz' e s1 s2
   exact⟨_,Fq,e1,a1,a2,a3⟩
  | bor o =>
   obtain⟨a,e1,_,_,w⟩:=z
   obtain⟨Fq,a1,a2,a3⟩:=w.frz' e s1 s2
   exact⟨_,Fq,e1,a1,a2,a3⟩
def pks (δ:List Sl):List Nat→Option (List D)
 | []=>some []
 | i::is=>match pk δ i with
  | some x=>(match pks δ is with
   | some xs=>some (x::xs)
   | none=>none)
  | none=>none
theorem Lk.pks {K:PySem.W.Frag}{F0 H0 F H:Hp}{B:Option Addr}{σ:St}{δ:List Sl}(L:Lk K F0 H0 B σ δ F H):∀ {is:List Nat} {xs:List D} {Fp:Hp},Same F Fp→Same Fp H→pks δ is=some xs→∃ vs Fq,Paired (fun i v=>σ[i]?=some (some v)) is vs∧Same Fp Fq∧Same Fq H∧Rps K Fq vs xs
 | [],xs,Fp,s1,s2,e=>by cases e;exact⟨[],Fp,.nil,Same.refl _,s2,.nil⟩
 | i::is,xs,Fp,s1,s2,e=>by
  unfold L3.pks at e
  cases q:L3.pk δ i with
  | none=>rw [q] at e;cases e
  | some x =>
   rw [q] at e
   dsimp only at e
   cases q2:L3.pks δ is with
   | none=>rw [q2] at e;cases e
   | some ys =>
    rw [q2] at e
    cases e
    obtain⟨v,Fq,e1,a1,a2,a3⟩:=L.pk s1 s2 q
    obtain⟨vs,Fr',b1,b2,b3,b4⟩:=L.pks (s1.trans a1) a2 q2
    exact⟨v::vs,Fr',.cons e1 b1,a1.trans b2,b3,.cons (a3.same b2) b4⟩
section
variable {X:Cx}{E:XK}{e a b c o:Expr}{es:List Expr}{pos p:Pos}
def flat:D→Bool
 | .non | .bl _ | .int _ | .str _=>true
 | _=>false
theorem bI9 {K:PySem.W.Frag}{F F':Hp}{v:V}{x:D}(h:flat x=true)(r:Rp K F v x):Rp K F' v x:=by
 cases r <;> first | exact .non | exact .bl _ | exact .int _ | exact .str _ | cases h
def tOP (r3:D→D→(D→Prop)→Prop)(i j:Nat):T3D:=fun Z δ Q=>match pk δ i,pk δ j with
 | some x,some y=>r3 x y fun z=>(match z with
  | .bl k=>Q (.bl k) δ
  | _=>False)
 | _,_=>False
theorem bo8 {K:PySem.W.Frag}{F0 H0:Hp}{B:Option Addr}{i j:Nat}{r:R2}{r3:D→D→(D→Prop)→Prop}(rel:R3 K r r3){σ:St}{H:Hp}{Q:VK}(h:LD K E F0 H0 B (tOP r3 i j) σ H Q):tOp r (tVar i) (tVar j) σ H Q:=by
 obtain⟨δ,F,Z,P,L,z,w,q⟩:=h
 unfold tOP at w
 cases e1:L3.pk δ i with
 | none=>rw [e1] at w;exact w.elim
 | some x =>
  cases e2:L3.pk δ j with
  | none=>rw [e1,e2] at w;exact w.elim
  | some y =>
   rw [e1,e2] at w
   obtain⟨v,Fq,s1,a1,a2,a3⟩:=L.pk (Same.refl _) L.fh e1
   obtain⟨u,Fr',s2,b1,b2,b3⟩:=L.pk a1 a2 e2
   refine⟨v,s1,u,s2,rel Fr' H x y v u Q _ b2 (a3.same b1) b3 w fun zz ww pz rz=>?_⟩
   cases rz with
   | bl k=>exact q _ δ _ F H pz L (Same.refl _) (.bl k)
   | _=>exact pz.elim
theorem bS8 (i j:Nat){op:CmpOp}{r:R2}{r3:D→D→(D→Prop)→Prop}{x y:Str}{p1 p2:Pos}(ho:OpR X (compareOp op) r)(rel:R3 X.K r r3)(hm:behindInMarks op (.Name y p2)=false)
  (hN:X.N[i]?=some x:=by rfl) (hv:Vis X.env.scope x:=by first | exact Or.inl rfl | exact Or.inr (Or.inl rfl) | exact Or.inr (Or.inr rfl)) (hd:(x == ("__debug__" : Str))=false:=by decide) (hcd:(x == ("__classdict__" : Str))=false:=by decide)
  (hN2:X.N[j]?=some y:=by rfl) (hv2:Vis X.env.scope y:=by first | exact Or.inl rfl | exact Or.inr (Or.inl rfl) | exact Or.inr (Or.inr rfl)) (hd2:(y == ("__debug__" : Str))=false:=by decide) (hcd2:(y == ("__classdict__" : Str))=false:=by decide) :
  D3 X E (.Compare (.Name x p1) [op] [.Name y p2] pos) (tOP r3 i j) :=
 ⟨fun F0 H0 B=>ac4 (bc6 ho (ae3 hN hv hd hcd) (ae3 hN2 hv2 hd2 hcd2) hm) fun _ _ _ h=>bo8 rel h⟩
theorem bo9 (i j:Nat){op:CmpOp}{r:R2}{r3:D→D→(D→Prop)→Prop}{x y:Str}{p1 p2:Pos}(ho:OpR X (compareOp op) r)(rel:R3 X.K r r3)(hm:behindInMarks op (.Name y p2)=false)
  (hN:X.N[i]?=some x:=by rfl) (hv:Vis X.env.scope x:=by first | exact Or.inl rfl | exact Or.inr (Or.inl rfl) | exact Or.inr (Or.inr rfl)) (hd:(x == ("__debug__" : Str))=false:=by decide) (hcd:(x == ("__classdict__" : Str))=false:=by decide)
  (hN2:X.N[j]?=some y:=by rfl) (hv2:Vis X.env.scope y:=by first | exact Or.inl rfl | exact Or.inr (Or.inl rfl) | exact Or.inr (Or.inr rfl)) (hd2:(y == ("__debug__" : Str))=false:=by decide) (hcd2:(y == ("__classdict__" : Str))=false:=by decide) :
  C3 X E (.Compare (.Name x p1) [op] [.Name y p2] pos) (tB3 (tOP r3 i j)) :=
 ⟨fun F0 H0 B=>aw1 (aN5 ho (ae3 hN hv hd hcd) (ae3 hN2 hv2 hd2 hcd2) hm) fun σ H Q hh=>ex4 hh fun δ F Z P L z w q=>bo8 (E:=E) (F0:=F0) (H0:=H0) (B:=B) rel ⟨δ,F,Z,_,L,z,w,fun x δ' v F' H' p L' s r=>by
  obtain⟨c,rfl,k⟩:=aC3 p
  exact⟨c,r.inv_bl,q _ δ' F' H' k L' s⟩⟩⟩
def tIsN (i:Nat)(T:String):T3D:=fun Z δ Q=>match pk δ i with
 | some x=>rIsi [x,.ty T] fun z=>(match z with
  | .bl k=>Q (.bl k) δ
  | _=>False)
 | none=>False
theorem bp0 (i:Nat){x y:Str}{T:String}{p1 p2:Pos}(hg:Gl X "isinstance")(hm:X.mg "isinstance"=none)(hgT:Gl X y)(hmT:X.mg y=none)(hvT:bootBuiltins y=some (.type T))
  (hN:X.N[i]?=some x:=by rfl) (hv:Vis X.env.scope x:=by first | exact Or.inl rfl | exact Or.inr (Or.inl rfl) | exact Or.inr (Or.inr rfl)) (hd:(x == ("__debug__" : Str))=false:=by decide) (hcd:(x == ("__classdict__" : Str))=false:=by decide)
  (hnT:y≠"__name__":=by decide) (hdT:(y == ("__debug__" : Str))=false:=by decide):D3 X E (.Call (.Name "isinstance" p) [.Name x p1,.Name y p2] [] pos) (tIsN i T) :=
 ⟨fun F0 H0 B=>ac4 (as8 bo6 hg hm PyProof.Rows.boot_isinstance (ar8 (ae3 hN hv hd hcd) (ar8 (Fr.bY5 hgT hmT hvT hnT hdT) aK1 Fr.aa1) Fr.aa1)) fun σ H Q hh=>ex4 hh fun δ F Z P L z w q=>by
  unfold tIsN at w
  cases e1:L3.pk δ i with
  | none=>rw [e1] at w;exact w.elim
  | some x =>
   rw [e1] at w
   obtain⟨v,Fq,s1,a1,a2,a3⟩:=L.pk (Same.refl _) L.fh e1
   refine⟨v,s1,bS1 Fq H [x,.ty T] [v,.ty T] Q _ a2 (.cons a3 (.cons (.ty T) .nil)) w fun zz ww pz rz=>?_⟩
   cases rz with
   | bl k=>exact q _ δ _ F H pz L (Same.refl _) (.bl k)
   | _=>exact pz.elim⟩
end
end L3
namespace L3
open PySem
theorem eqv_refl {x:D}(h:az5 x):PyData.eqv x.py x.py=true:=SeqAt.eqv_refl x.py h.1
theorem be2 {f:Nat}:∀ {xs:List D},(∀ x∈xs,x.py.canLay0=true∧x.py.depth≤f)→PyData.canLayAll0 (D.pys xs)=true∧PyData.depthAll (D.pys xs)≤f
 | [],_=>by simp [D.pys,PyData.canLayAll0,PyData.depthAll]
 | x::xs,h=>by
  have a:=h x mem_cons_self
  have b:=be2 fun y hy=>h y (mem_cons_of_mem _ hy)
  simp only [D.pys,PyData.canLayAll0,PyData.depthAll,a.1,b.1,Bool.and_self,true_and]
  have:=a.2
  have:=b.2
  omega
theorem bp1 {f:Nat}{xs:List D}(h:∀ x∈xs,x.py.canLay0=true∧x.py.depth≤f)(hf:f≤50):az5 (.lst xs):=by
 obtain⟨a,b⟩:=be2 h
 refine⟨by simpa [D.py,PyData.canLay0] using a,?_⟩
 show PyData.depth (.list (D.pys xs))≤60
 simp only [PyData.depth]
 omega
theorem bJ0 (i:Int):(D.int i).py.canLay0=true∧(D.int i).py.depth≤0:=⟨rfl,by show PyData.depth (.int i)≤0;simp [PyData.depth]⟩
theorem aW6 {xs:List D}{i:Nat}{x:D}(h:(av1 xs)[i]?=some x):∃ y,xs[i]?=some y∧x=.tup [.int (i:Nat),y]:=by
 have lt:=(List.getElem?_eq_some_iff.mp h).1
 rw [al2] at lt
 unfold av1 at h
 rw [getElem?_map,getElem?_range lt] at h
 have h':D.tup [.int (i:Nat),xs[i]?.getD .non]=x:=by simpa using h
 refine⟨xs[i],getElem?_eq_getElem lt,?_⟩
 rw [← h',getElem?_eq_getElem lt]
 rfl
end L3
namespace L3
open PySem L2
theorem MtOk.mono {P:Program}{w:World}{K:PySem.W.Frag}{mg:Str→Option Value}{base:Heap}{j k:Nat}{C:Addr}{m:Str}{ps:List Str}{sp:Sp3}(O:MtOk P w K mg base j C m ps sp)(h:j≤k):MtOk P w K mg base k C m ps sp:=by
 obtain⟨c,f,fd,a,b,d⟩:=O
 exact⟨c,f,fd,a.mono h,b,d⟩
theorem MkOk.mono {P:Program}{w:World}{K:PySem.W.Frag}{mg:Str→Option Value}{base:Heap}{j k:Nat}{x:Str}{C:Addr}{ps:List Str}{sp:Sp3}(O:MkOk P w K mg base j x C ps sp)(h:j≤k):MkOk P w K mg base k x C ps sp:=by
 obtain⟨⟨f,fd,a,b,d⟩,m⟩:=O
 exact⟨⟨f,fd,a.mono h,b,d⟩,m⟩
end L3
namespace L3
open PySem L2
section
def cc3:List D→(D→Prop)→Prop:=fun xs P=>match xs with
 | [.lst ys]=>∃ bs:List Bool,ys=bs.map D.bl∧P (.bl (bs.all id))
 | _=>False
end
section
variable {X:Cx}{E:XK}{e a b c o:Expr}{es:List Expr}{pos:Pos}
def tDm (t:T3A):T3D:=fun Z δ Q=>t Z δ fun xs δ'=>match xs with
 | [.int i,.int j]=>DivM i j∧Q (.tup [.int (i / j),.int (i % j)]) δ'
 | _=>False
theorem bw3 {x:Str}{p:Pos}{t:T3A}(hg:Gl X x)(hm:X.mg x=none)(hv:bootBuiltins x=some (.builtin "divmod"))(ha:A3 X E (e::es) t)(hn:x≠"__name__":=by decide)(hdb:(x == ("__debug__" : Str))=false:=by decide)
  (he:starEach (e::es) X.env=(false,eval e X.env)::starEach es X.env:=by rfl) (hpl:(backTo pos (starEach es X.env)).any (·.1)=false:=by rfl):D3 X E (.Call (.Name x p) (e::es) [] pos) (tDm t) :=
 ⟨fun F0 H0 B=>ac4 (as8 Fr.aV2 hg hm hv (ha.h F0 H0 B) hn hdb he hpl) fun σ H Q hh=>ex4 hh fun δ F Z P L z w q=>⟨δ,F,Z,_,L,z,w,fun xs δ' vs F' H' p L' s r=>by
  obtain⟨i,j,rfl,hc,pk⟩:=m2I p
  obtain⟨v,u,rfl,r1,r2⟩:=r.inv2
  obtain rfl:=r1.inv_int
  obtain rfl:=r2.inv_int
  refine⟨i,j,rfl,hc,fun a ha=>?_⟩
  obtain⟨L2,s2⟩:=L'.newD (ho:=.tup [.int (i / j),.int (i % j)]) ha
  exact q _ δ' _ _ _ pk L2 (s.trans s2) (.tup (SqT.of ab5) (.cons (.int _) (.cons (.int _) .nil)))⟩⟩
end
end L3
namespace L3
open PySem
theorem iv_d {δ:List Sl}{P:D→Prop}(h:match δ with
 | [.d x0]=>P x0
 | _=>False):∃ x0,δ=[.d x0]∧P x0:=by
 split at h
 ·exact⟨_,rfl,h⟩
 ·exact h.elim
theorem ln_d {δ:List Sl}{P:D→Prop}(h:match δ with
 | [.d x0]=>P x0
 | _=>False):δ.length=1:=by
 obtain⟨x0,rfl,_⟩:=iv_d h
 rfl
theorem iv_i {δ:List Sl}{P:Int→Prop}(h:match δ with
 | [.d (.int x0)]=>P x0
 | _=>False):∃ x0,δ=[.d (.int x0)]∧P x0:=by
 split at h
 ·exact⟨_,rfl,h⟩
 ·exact h.elim
theorem ln_i {δ:List Sl}{P:Int→Prop}(h:match δ with
 | [.d (.int x0)]=>P x0
 | _=>False):δ.length=1:=by
 obtain⟨x0,rfl,_⟩:=iv_i h
 rfl
theorem iv_s {δ:List Sl}{P:List Int→Prop}(h:match δ with
 | [.d (.scr x0)]=>P x0
 | _=>False):∃ x0,δ=[.d (.scr x0)]∧P x0:=by
 split at h
 ·exact⟨_,rfl,h⟩
 ·exact h.elim
theorem ln_s {δ:List Sl}{P:List Int→Prop}(h:match δ with
 | [.d (.scr x0)]=>P x0
 | _=>False):δ.length=1:=by
 obtain⟨x0,rfl,_⟩:=iv_s h
 rfl
theorem az6 {δ:List Sl}{P:D→D→Prop}(h:match δ with
 | [.d x0,.d x1]=>P x0 x1
 | _=>False):∃ x0 x1,δ=[.d x0,.d x1]∧P x0 x1:=by
 split at h
 ·exact⟨_,_,rfl,h⟩
 ·exact h.elim
theorem aF7 {δ:List Sl}{P:D→D→Prop}(h:match δ with
 | [.d x0,.d x1]=>P x0 x1
 | _=>False):δ.length=2:=by
 obtain⟨x0,x1,rfl,_⟩:=az6 h
 rfl
theorem bi7 {δ:List Sl}{P:D→Int→Prop}(h:match δ with
 | [.d x0,.d (.int x1)]=>P x0 x1
 | _=>False):∃ x0 x1,δ=[.d x0,.d (.int x1)]∧P x0 x1:=by
 split at h
 ·exact⟨_,_,rfl,h⟩
 ·exact h.elim
theorem bD4 {δ:List Sl}{P:D→Int→Prop}(h:match δ with
 | [.d x0,.d (.int x1)]=>P x0 x1
 | _=>False):δ.length=2:=by
 obtain⟨x0,x1,rfl,_⟩:=bi7 h
 rfl
theorem bi8 {δ:List Sl}{P:Int→D→Prop}(h:match δ with
 | [.d (.int x0),.d x1]=>P x0 x1
 | _=>False):∃ x0 x1,δ=[.d (.int x0),.d x1]∧P x0 x1:=by
 split at h
 ·exact⟨_,_,rfl,h⟩
 ·exact h.elim
theorem bD5 {δ:List Sl}{P:Int→D→Prop}(h:match δ with
 | [.d (.int x0),.d x1]=>P x0 x1
 | _=>False):δ.length=2:=by
 obtain⟨x0,x1,rfl,_⟩:=bi8 h
 rfl
theorem ar7 {δ:List Sl}{P:Int→Int→Prop}(h:match δ with
 | [.d (.int x0),.d (.int x1)]=>P x0 x1
 | _=>False):∃ x0 x1,δ=[.d (.int x0),.d (.int x1)]∧P x0 x1:=by
 split at h
 ·exact⟨_,_,rfl,h⟩
 ·exact h.elim
theorem av2 {δ:List Sl}{P:Int→Int→Prop}(h:match δ with
 | [.d (.int x0),.d (.int x1)]=>P x0 x1
 | _=>False):δ.length=2:=by
 obtain⟨x0,x1,rfl,_⟩:=ar7 h
 rfl
theorem bD6 {δ:List Sl}{P:List Int→Int→Prop}(h:match δ with
 | [.d (.scr x0),.d (.int x1)]=>P x0 x1
 | _=>False):∃ x0 x1,δ=[.d (.scr x0),.d (.int x1)]∧P x0 x1:=by
 split at h
 ·exact⟨_,_,rfl,h⟩
 ·exact h.elim
theorem ca6 {δ:List Sl}{P:List Int→Int→Prop}(h:match δ with
 | [.d (.scr x0),.d (.int x1)]=>P x0 x1
 | _=>False):δ.length=2:=by
 obtain⟨x0,x1,rfl,_⟩:=bD6 h
 rfl
theorem aC9 {δ:List Sl}{P:D→D→D→Prop}(h:match δ with
 | [.d x0,.d x1,.d x2]=>P x0 x1 x2
 | _=>False):∃ x0 x1 x2,δ=[.d x0,.d x1,.d x2]∧P x0 x1 x2:=by
 split at h
 ·exact⟨_,_,_,rfl,h⟩
 ·exact h.elim
theorem aL5 {δ:List Sl}{P:D→D→D→Prop}(h:match δ with
 | [.d x0,.d x1,.d x2]=>P x0 x1 x2
 | _=>False):δ.length=3:=by
 obtain⟨x0,x1,x2,rfl,_⟩:=aC9 h
 rfl
theorem bp2 {δ:List Sl}{P:D→Int→D→Prop}(h:match δ with
 | [.d x0,.d (.int x1),.d x2]=>P x0 x1 x2
 | _=>False):∃ x0 x1 x2,δ=[.d x0,.d (.int x1),.d x2]∧P x0 x1 x2:=by
 split at h
 ·exact⟨_,_,_,rfl,h⟩
 ·exact h.elim
theorem bS9 {δ:List Sl}{P:D→Int→D→Prop}(h:match δ with
 | [.d x0,.d (.int x1),.d x2]=>P x0 x1 x2
 | _=>False):δ.length=3:=by
 obtain⟨x0,x1,x2,rfl,_⟩:=bp2 h
 rfl
theorem aL6 {δ:List Sl}{P:D→Int→Int→Prop}(h:match δ with
 | [.d x0,.d (.int x1),.d (.int x2)]=>P x0 x1 x2
 | _=>False):∃ x0 x1 x2,δ=[.d x0,.d (.int x1),.d (.int x2)]∧P x0 x1 x2:=by
 split at h
 ·exact⟨_,_,_,rfl,h⟩
 ·exact h.elim
theorem aW7 {δ:List Sl}{P:D→Int→Int→Prop}(h:match δ with
 | [.d x0,.d (.int x1),.d (.int x2)]=>P x0 x1 x2
 | _=>False):δ.length=3:=by
 obtain⟨x0,x1,x2,rfl,_⟩:=aL6 h
 rfl
theorem bp3 {δ:List Sl}{P:Int→Int→Int→Prop}(h:match δ with
 | [.d (.int x0),.d (.int x1),.d (.int x2)]=>P x0 x1 x2
 | _=>False):∃ x0 x1 x2,δ=[.d (.int x0),.d (.int x1),.d (.int x2)]∧P x0 x1 x2:=by
 split at h
 ·exact⟨_,_,_,rfl,h⟩
 ·exact h.elim
theorem bT0 {δ:List Sl}{P:Int→Int→Int→Prop}(h:match δ with
 | [.d (.int x0),.d (.int x1),.d (.int x2)]=>P x0 x1 x2
 | _=>False):δ.length=3:=by
 obtain⟨x0,x1,x2,rfl,_⟩:=bp3 h
 rfl
theorem us_1 {us:List Value}(h:us.length=1):∃ a0,us=[a0]:=by
 match us,h with
 | [a0],_=>exact⟨a0,rfl⟩
theorem us_2 {us:List Value}(h:us.length=2):∃ a0 a1,us=[a0,a1]:=by
 match us,h with
 | [a0,a1],_=>exact⟨a0,a1,rfl⟩
theorem us_3 {us:List Value}(h:us.length=3):∃ a0 a1 a2,us=[a0,a1,a2]:=by
 match us,h with
 | [a0,a1,a2],_=>exact⟨a0,a1,a2,rfl⟩
theorem us_4 {us:List Value}(h:us.length=4):∃ a0 a1 a2 a3,us=[a0,a1,a2,a3]:=by
 match us,h with
 | [a0,a1,a2,a3],_=>exact⟨a0,a1,a2,a3,rfl⟩
end L3
namespace Fr
def fac (n:Nat):List Nat:=((List.range n).map (·+1)).filter fun k=>Nat.gcd k n == 1
def act (n k:Nat)(p:Nat×Nat):Nat×Nat:=(k*p.1 % n,k*p.2 % n)
def orb (n:Nat)(p:Nat×Nat):List (Nat×Nat):=(fac n).map fun k=>act n k p
def good (n:Nat)(p:Nat×Nat):Bool:=Nat.gcd (Nat.gcd p.1 p.2) n == 1
def ple (p q:Nat×Nat):Bool:=decide (p.1 < q.1) || (decide (p.1=q.1) && decide (p.2≤q.2))
def ae5 (n:Nat)(p:Nat×Nat):Bool:=good n p && (orb n p).all fun q=>ple p q
def prs (n t:Nat):Nat×Nat:=(t / n,t % n)
def symT (n t:Nat):List (Nat×Nat):=((List.range t).map (prs n)).filter (ae5 n)
def syms (n:Nat):List (Nat×Nat):=symT n (n*n)
def ac0 (n:Nat)(ss:List (Nat×Nat))(q:Nat×Nat):Option Nat:=ss.findIdx? fun s=>(orb n s).contains q
theorem fac_mem {n k:Nat}:k∈fac n↔(1≤k∧k≤n∧Nat.gcd k n=1):=by
 unfold fac
 rw [mem_filter,mem_map]
 constructor
 ·rintro ⟨⟨a,ha,rfl⟩,h⟩
  have:=mem_range.mp ha
  exact⟨by omega,by omega,by simpa using h⟩
 ·rintro ⟨h1,h2,h3⟩
  exact⟨⟨k - 1,mem_range.mpr (by omega),by omega⟩,by simpa using h3⟩
theorem aF8 (a n:Nat):Nat.gcd (a % n) n=Nat.gcd a n:=by rw [← Nat.gcd_rec,gcd_comm]
def bD7 (n:Nat):Bool:=(fac n).all fun a=>(fac n).any fun b=>a*b % n == 1 % n
theorem bT1:∀ n,n≤48→bD7 n=true:=by
 have h:((List.range 49).all fun n=>bD7 n)=true:=by decide +kernel
 intro n hn
 exact all_eq_true.mp h n (mem_range.mpr (by omega))
theorem bJ1 {n a:Nat}(hn:n≤48)(ha:a∈fac n):∃ b∈fac n,a*b % n=1 % n:=by
 have h:=all_eq_true.mp (bT1 n hn) a ha
 obtain⟨b,hb,e⟩:=List.any_eq_true.mp h
 exact⟨b,hb,by simpa using e⟩
theorem aW8 {n a:Nat}(hn:1≤n)(h:Nat.gcd a n=1):∃ c∈fac n,c % n=a % n:=by
 by_cases z:a % n=0
 ·refine⟨n,fac_mem.mpr ⟨hn,le_refl _,?_⟩,by rw [z,Nat.mod_self]⟩
  rw [Nat.gcd_self]
  rw [← aF8,z,Nat.gcd_zero_left] at h
  exact h
 ·exact⟨a % n,fac_mem.mpr ⟨by omega,le_of_lt (mod_lt _ hn),by rw [aF8];exact h⟩,Nat.mod_mod _ _⟩
theorem bJ2 {n a b:Nat}(hn:n≤48)(ha:a∈fac n)(hb:b∈fac n):∃ c∈fac n,c % n=a*b % n:=by
 obtain⟨a1,a2,a3⟩:=fac_mem.mp ha
 exact aW8 (by omega) (Coprime.mul_left a3 (fac_mem.mp hb).2.2)
theorem aO0 {n a b:Nat}(h:a % n=b % n)(p:Nat×Nat):act n a p=act n b p:=by
 unfold act
 rw [mul_mod a,mul_mod a p.2,h,← mul_mod,← mul_mod]
theorem be3 (n a b:Nat)(p:Nat×Nat):act n a (act n b p)=act n (a*b) p:=by
 unfold act
 simp only [Nat.mul_mod_mod,mul_assoc]
def inR (n:Nat)(p:Nat×Nat):Prop:=p.1 < n∧p.2 < n
theorem be4 {n:Nat}{p:Nat×Nat}(h:inR n p):act n 1 p=p:=by
 unfold act
 rw [one_mul,one_mul,mod_eq_of_lt h.1,mod_eq_of_lt h.2]
theorem bJ3 {n k:Nat}(hn:1≤n)(p:Nat×Nat):inR n (act n k p):=⟨mod_lt _ hn,mod_lt _ hn⟩
theorem bJ4 {n:Nat}(hn:1≤n):1∈fac n:=fac_mem.mpr ⟨le_refl _,hn,Nat.gcd_one_left n⟩
theorem orb_mem {n:Nat}{p q:Nat×Nat}:q∈orb n p↔∃ k∈fac n,act n k p=q:=by
 unfold orb
 rw [mem_map]
theorem aI3 {n:Nat}(hn:1≤n){p:Nat×Nat}(h:inR n p):p∈orb n p:=orb_mem.mpr ⟨1,bJ4 hn,be4 h⟩
theorem ak7 {n:Nat}(hn:1≤n)(h48:n≤48){p q:Nat×Nat}(hp:inR n p)(h:q∈orb n p):p∈orb n q:=by
 obtain⟨k,hk,rfl⟩:=orb_mem.mp h
 obtain⟨b,hb,e⟩:=bJ1 h48 hk
 refine orb_mem.mpr ⟨b,hb,?_⟩
 rw [be3,aO0 (show b*k % n=1 % n by rw [mul_comm];exact e),be4 hp]
theorem ah5 {n:Nat}(h48:n≤48){p q r:Nat×Nat}(h1:q∈orb n p)(h2:r∈orb n q):r∈orb n p:=by
 obtain⟨k,hk,rfl⟩:=orb_mem.mp h1
 obtain⟨j,hj,rfl⟩:=orb_mem.mp h2
 obtain⟨c,hc,e⟩:=bJ2 h48 hj hk
 exact orb_mem.mpr ⟨c,hc,by rw [be3,aO0 e]⟩
theorem aO1 {n:Nat}(hn:1≤n){p q:Nat×Nat}(h:q∈orb n p):inR n q:=by
 obtain⟨k,hk,rfl⟩:=orb_mem.mp h
 exact bJ3 hn p
theorem bJ5 {p q:Nat×Nat}:ple p q=true↔(p.1 < q.1∨(p.1=q.1∧p.2≤q.2)):=by
 unfold ple
 simp [Bool.or_eq_true,Bool.and_eq_true]
def plc (n:Nat)(p:Nat×Nat):Nat:=p.1*n+p.2
theorem aF9 {n:Nat}{p:Nat×Nat}(h:inR n p):prs n (plc n p)=p:=by
 unfold prs plc
 have hn:0 < n:=lt_of_le_of_lt (zero_le _) h.1
 rw [mul_comm,Nat.mul_add_div hn,Nat.mul_add_mod,Nat.div_eq_of_lt h.2,mod_eq_of_lt h.2]
 simp
theorem an0 {n t:Nat}:plc n (prs n t)=t:=by
 unfold prs plc
 rw [mul_comm]
 exact Nat.div_add_mod t n
theorem aO2 {n t:Nat}(h:t < n*n):inR n (prs n t):=by
 have hn:0 < n:=by
  rcases Nat.eq_zero_or_pos n with z | z
  ·subst z;simp at h
  ·exact z
 exact⟨Nat.div_lt_of_lt_mul h,mod_lt _ hn⟩
theorem bT2 {n:Nat}{p:Nat×Nat}(h:inR n p):plc n p < n*n:=by
 unfold plc
 have h1:p.1+1≤n:=h.1
 have h2:=h.2
 have:(p.1+1)*n≤n*n:=mul_le_mul_right n h1
 rw [add_mul,one_mul] at this
 omega
theorem aG0 {n:Nat}{p q:Nat×Nat}(hp:inR n p)(hq:inR n q):ple p q=true↔plc n p≤plc n q:=by
 rw [bJ5]
 unfold plc
 constructor
 ·rintro (h | ⟨h1,h2⟩)
  ·have:(p.1+1)*n≤q.1*n:=mul_le_mul_right n h
   rw [add_mul,one_mul] at this
   have:=hp.2
   omega
  ·rw [h1];omega
 ·intro h
  by_cases e:p.1 < q.1
  ·exact .inl e
  ·refine .inr ?_
   by_cases e2:p.1=q.1
   ·rw [e2] at h
    exact⟨e2,by omega⟩
   ·have e3:q.1+1≤p.1:=by omega
    have:(q.1+1)*n≤p.1*n:=mul_le_mul_right n e3
    rw [add_mul,one_mul] at this
    have:=hq.2
    omega
theorem aW9 {n:Nat}(hn:1≤n)(h48:n≤48):∀ (m:Nat) (p:Nat×Nat),plc n p≤m→inR n p→∃ q∈orb n p,(orb n q).all (fun r=>ple q r)=true
 | m,p,hm,hp=>by
  by_cases h:(orb n p).all (fun r=>ple p r)=true
  ·exact⟨p,aI3 hn hp,h⟩
  ·have h':∃ r∈orb n p,ple p r=false:=by
    apply Classical.byContradiction
    intro no
    apply h
    rw [all_eq_true]
    intro r hr
    cases e:ple p r with
    | true=>rfl
    | false=>exact absurd ⟨r,hr,e⟩ no
   obtain⟨r,hr,e⟩:=h'
   have hr':=aO1 hn hr
   have lt:plc n r < plc n p:=by
    apply Nat.lt_of_not_le
    intro z
    rw [(aG0 hp hr').mpr z] at e
    cases e
   match m,hm with
   | 0,hm=>omega
   | m+1,hm =>
    obtain⟨q,hq,hl⟩:=aW9 hn h48 m r (by omega) hr'
    exact⟨q,ah5 h48 hr hq,hl⟩
theorem bw4 (n a b:Nat):Nat.gcd (Nat.gcd (a % n) (b % n)) n=Nat.gcd (Nat.gcd a b) n:=by
 rw [gcd_assoc,aF8,gcd_comm b n,← gcd_assoc,aF8,gcd_assoc,gcd_comm n b,← gcd_assoc]
theorem bw5 {n k:Nat}(hk:k∈fac n)(p:Nat×Nat):good n (act n k p)=good n p:=by
 unfold good act
 dsimp only
 rw [bw4,Nat.gcd_mul_left,Coprime.gcd_mul_left_cancel _ (fac_mem.mp hk).2.2]
theorem aX0 {n:Nat}{p q:Nat×Nat}(h:q∈orb n p):good n q=good n p:=by
 obtain⟨k,hk,rfl⟩:=orb_mem.mp h
 exact bw5 hk p
theorem isLeast_iff {n:Nat}{p:Nat×Nat}:ae5 n p=true↔(good n p=true∧∀ q∈orb n p,ple p q=true):=by
 unfold ae5
 rw [Bool.and_eq_true,all_eq_true]
theorem aq8 {n:Nat}(hn:1≤n)(h48:n≤48){p q:Nat×Nat}(hp:inR n p)(lp:ae5 n p=true)(lq:ae5 n q=true)(h:q∈orb n p):p=q:=by
 have hq:=aO1 hn h
 have a:=(aG0 hp hq).mp ((isLeast_iff.mp lp).2 q h)
 have b:=(aG0 hq hp).mp ((isLeast_iff.mp lq).2 p (ak7 hn h48 hp h))
 rw [← aF9 hp,← aF9 hq,Nat.le_antisymm a b]
theorem symT_mem {n t:Nat}{p:Nat×Nat}:p∈symT n t↔(ae5 n p=true∧∃ i < t,prs n i=p):=by
 unfold symT
 rw [mem_filter,mem_map]
 constructor
 ·rintro ⟨⟨i,hi,e⟩,h⟩
  exact⟨h,i,mem_range.mp hi,e⟩
 ·rintro ⟨h,i,hi,e⟩
  exact⟨⟨i,mem_range.mpr hi,e⟩,h⟩
theorem al3 (n t:Nat):symT n (t+1)=symT n t++(if ae5 n (prs n t)=true then [prs n t] else []):=by
 unfold symT
 rw [range_succ,map_append,filter_append]
 by_cases h:ae5 n (prs n t)=true
 ·rw [if_pos h]
  simp [h]
 ·rw [if_neg h]
  simp [h]
theorem aI4 {n t:Nat}(ht:t≤n*n){p:Nat×Nat}(h:p∈symT n t):inR n p:=by
 obtain⟨_,i,hi,rfl⟩:=symT_mem.mp h
 exact aO2 (by omega)
theorem be5 {n:Nat}(hn:1≤n)(h48:n≤48){p:Nat×Nat}(hp:inR n p)(g:good n p=true):∃ s∈symT n (plc n p+1),p∈orb n s:=by
 obtain⟨q,hq,hl⟩:=aW9 hn h48 (plc n p) p (le_refl _) hp
 have hq':=aO1 hn hq
 have lq:ae5 n q=true:=isLeast_iff.mpr ⟨by rw [aX0 hq];exact g,fun r hr=>all_eq_true.mp hl r hr⟩
 have hs:=ak7 hn h48 hp hq
 have:=(aG0 hq' hp).mp ((isLeast_iff.mp lq).2 p hs)
 exact⟨q,symT_mem.mpr ⟨lq,plc n q,by omega,aF9 hq'⟩,hs⟩
theorem bJ6 {n t:Nat}(hn:1≤n)(h48:n≤48)(ht:t < n*n):((ac0 n (symT n t) (prs n t)).isNone=true∧good n (prs n t)=true)↔ae5 n (prs n t)=true:=by
 have hp:=aO2 ht
 unfold ac0
 rw [Option.isNone_iff_eq_none,List.findIdx?_eq_none_iff]
 constructor
 ·rintro ⟨h,g⟩
  obtain⟨s,hs,ho⟩:=be5 hn h48 hp g
  rw [an0,al3] at hs
  rcases mem_append.mp hs with hs | hs
  ·have:=h s hs
   rw [contains_iff_mem.mpr ho] at this
   cases this
  ·split at hs
   ·assumption
   ·cases hs
 ·intro l
  refine⟨fun s hs=>?_,(isLeast_iff.mp l).1⟩
  have hsR:=aI4 (le_of_lt ht) hs
  obtain⟨ls,i,hi,e⟩:=symT_mem.mp hs
  cases c:(orb n s).contains (prs n t) with
  | false=>rfl
  | true =>
   have ho:=contains_iff_mem.mp c
   have:=aq8 hn h48 hsR ls l ho
   rw [← e] at this
   have:=congrArg (plc n) this
   rw [an0,an0] at this
   omega
theorem bi9 {n:Nat}{ss:List (Nat×Nat)}{s q:Nat×Nat}(dis:∀ s'∈ss,q∈orb n s→q ∉ orb n s'):ac0 n (ss++[s]) q=if (orb n s).contains q=true then some ss.length else ac0 n ss q:=by
 unfold ac0
 rw [List.findIdx?_append]
 by_cases c:(orb n s).contains q=true
 ·rw [if_pos c]
  have:ss.findIdx? (fun s=>(orb n s).contains q)=none:=List.findIdx?_eq_none_iff.mpr fun s' hs'=>by
   cases e:(orb n s').contains q with
   | false=>rfl
   | true=>exact absurd (contains_iff_mem.mp e) (dis s' hs' (contains_iff_mem.mp c))
  rw [this]
  simp [List.findIdx?_cons,contains_iff_mem.mp c]
 ·rw [if_neg c]
  have c':q ∉ orb n s:=fun z=>c (contains_iff_mem.mpr z)
  simp [List.findIdx?_cons,c']
theorem bT3 {n t:Nat}(hn:1≤n)(h48:n≤48)(ht:t < n*n)(l:ae5 n (prs n t)=true)(q:Nat×Nat):∀ s'∈symT n t,q∈orb n (prs n t)→q ∉ orb n s':=by
 intro s' hs' h1 h2
 have hsR:=aI4 (le_of_lt ht) hs'
 obtain⟨ls,i,hi,e⟩:=symT_mem.mp hs'
 have h3:=ah5 h48 h2 (ak7 hn h48 (aO2 ht) h1)
 have:=aq8 hn h48 hsR ls l h3
 rw [← e] at this
 have:=congrArg (plc n) this
 rw [an0,an0] at this
 omega
theorem az7 (n t:Nat):(symT n t).Nodup:=by
 unfold symT
 refine Nodup.sublist List.filter_sublist ?_
 rw [List.nodup_iff_pairwise_ne,List.pairwise_map]
 refine Pairwise.imp ?_ (pairwise_lt_range)
 intro a b h e
 have:=congrArg (plc n) e
 rw [an0,an0] at this
 omega
theorem az8 {α:Type}{l:List α}(h:l.Nodup){i j:Nat}{x:α}(hi:l[i]?=some x)(hj:l[j]?=some x):i=j:=by
 obtain⟨h1,e1⟩:=List.getElem?_eq_some_iff.mp hi
 obtain⟨h2,e2⟩:=List.getElem?_eq_some_iff.mp hj
 have hp:=List.pairwise_iff_getElem.mp (List.nodup_iff_pairwise_ne.mp h)
 rcases Nat.lt_trichotomy i j with z | z | z
 ·exact absurd (e1.trans e2.symm) (hp i j h1 h2 z)
 ·exact z
 ·exact absurd (e2.trans e1.symm) (hp j i h2 h1 z)
theorem al4 {n:Nat}{s:Nat×Nat}(h:s∈syms n):inR n s:=aI4 (le_refl _) h
theorem ah6 {n:Nat}{s:Nat×Nat}(h:s∈syms n):ae5 n s=true:=(symT_mem.mp h).1
theorem be6 {n:Nat}(hn:1≤n)(h48:n≤48){i:Nat}{s:Nat×Nat}(h:(syms n)[i]?=some s):ac0 n (syms n) s=some i:=by
 have hs:=mem_of_getElem? h
 cases e:ac0 n (syms n) s with
 | none =>
  unfold ac0 at e
  have:=List.findIdx?_eq_none_iff.mp e s hs
  rw [contains_iff_mem.mpr (aI3 hn (al4 hs))] at this
  cases this
 | some j =>
  unfold ac0 at e
  obtain⟨lt,hc,_⟩:=findIdx?_eq_some_iff_getElem.mp e
  have hj:(syms n)[j]?=some (syms n)[j]:=getElem?_eq_getElem lt
  have hs':=mem_of_getElem? hj
  have:=aq8 hn h48 (al4 hs') (ah6 hs') (ah6 hs) (contains_iff_mem.mp hc)
  rw [this] at hj
  rw [az8 (az7 n (n*n)) hj h]
theorem bez (a b:Nat):∃ x y:Int,x*a+y*b=(Nat.gcd a b:Nat):=by
 induction a,b using Nat.gcd.induction with
 | H0 n=>exact⟨0,1,by simp⟩
 | H1 m n hm ih =>
  obtain⟨x,y,e⟩:=ih
  refine⟨y - x*(n / m:Nat),x,?_⟩
  rw [Nat.gcd_rec m n,← e]
  have h:(n:Int)=(n % m:Nat)+(m:Int)*(n / m:Nat):=by
   have:=mod_add_div n m
   omega
  generalize (n / m:Nat)=q at *
  generalize (n % m:Nat)=r at *
  rw [h]
  grind
theorem bez3 {n u v:Nat}(g:Nat.gcd (Nat.gcd u v) n=1):∃ x y z:Int,x*u+y*v+z*n=1:=by
 obtain⟨x,y,e⟩:=bez u v
 obtain⟨s,t,e2⟩:=bez (Nat.gcd u v) n
 rw [g,← e] at e2
 exact⟨s*x,s*y,t,by grind⟩
theorem aL7 {n a b:Nat}(hn:1≤n)(hb:b < n)(h:(n:Int)∣(a:Int) - b):a % n=b:=by
 have h2:(a:Int) % n=(b:Int) % n:=by
  obtain⟨m,hm⟩:=h
  have e:(a:Int)=b+n*m:=by omega
  rw [e,Int.add_mul_emod_self_left]
 have h3:((a % n:Nat):Int)=((b % n:Nat):Int):=by
  rw [natCast_emod,natCast_emod]
  exact h2
 rw [mod_eq_of_lt hb] at h3
 omega
theorem aR9 {n:Nat}{p q:Nat×Nat}(hn:1≤n)(hp:good n p=true)(hq:good n q=true)(hR:inR n q)(c:(n:Int)∣(p.1:Int)*q.2 - (p.2:Int)*q.1):q∈orb n p:=by
 obtain⟨p1,p2⟩:=p
 obtain⟨q1,q2⟩:=q
 dsimp only at *
 have gp:Nat.gcd (Nat.gcd p1 p2) n=1:=by simpa [good] using hp
 have gq:Nat.gcd (Nat.gcd q1 q2) n=1:=by simpa [good] using hq
 obtain⟨x,y,z,e⟩:=bez3 gp
 obtain⟨m,hm⟩:=c
 have hn0:(n:Int)≠0:=by omega
 generalize hk:x*(q1:Int)+y*q2=k
 have k1:k*p1 - q1=n*(y*m - z*q1):=by grind
 have k2:k*p2 - q2=n*(- (x*m) - z*q2):=by grind
 have kk0:0≤k % n:=emod_nonneg k hn0
 obtain⟨kk,hkk⟩:∃ kk:Nat,(kk:Int)=k % n:=⟨(k % n).toNat,Int.toNat_of_nonneg kk0⟩
 have hd:k=kk+n*(k / n):=by
  rw [hkk]
  have:=emod_add_mul_ediv k n
  omega
 generalize k / n=w at hd
 have g1:Nat.gcd kk n=1:=by
  have d1:((Nat.gcd kk n:Nat):Int)∣(n:Int):=natCast_dvd_natCast.mpr (gcd_dvd_right _ _)
  have d2:((Nat.gcd kk n:Nat):Int)∣(kk:Int):=natCast_dvd_natCast.mpr (gcd_dvd_left _ _)
  have d3:((Nat.gcd kk n:Nat):Int)∣k:=by
   rw [hd]
   exact dvd_add d2 (dvd_mul_of_dvd_left d1)
  have e1:(q1:Int)=k*p1 - n*(y*m - z*q1):=by omega
  have e2:(q2:Int)=k*p2 - n*(- (x*m) - z*q2):=by omega
  have f1:((Nat.gcd kk n:Nat):Int)∣(q1:Int):=by
   rw [e1]
   exact dvd_sub (dvd_mul_of_dvd_left d3) (dvd_mul_of_dvd_left d1)
  have f2:((Nat.gcd kk n:Nat):Int)∣(q2:Int):=by
   rw [e2]
   exact dvd_sub (dvd_mul_of_dvd_left d3) (dvd_mul_of_dvd_left d1)
  have:=dvd_gcd (dvd_gcd (natCast_dvd_natCast.mp f1) (natCast_dvd_natCast.mp f2)) (gcd_dvd_right kk n)
  rw [gq] at this
  exact dvd_one.mp this
 obtain⟨c,hc,ec⟩:=aW8 hn g1
 refine orb_mem.mpr ⟨c,hc,?_⟩
 rw [aO0 ec]
 unfold act
 refine Prod.ext ?_ ?_
 ·refine aL7 hn hR.1 ⟨y*m - z*q1 - w*p1,?_⟩
  show (((kk*p1:Nat):Int)) - q1=_
  rw [natCast_mul]
  grind
 ·refine aL7 hn hR.2 ⟨- (x*m) - z*q2 - w*p2,?_⟩
  show (((kk*p2:Nat):Int)) - q2=_
  rw [natCast_mul]
  grind
theorem bp4 {n:Nat}{p q:Nat×Nat}(h:q∈orb n p):(n:Int)∣(p.1:Int)*q.2 - (p.2:Int)*q.1:=by
 obtain⟨k,_,rfl⟩:=orb_mem.mp h
 obtain⟨p1,p2⟩:=p
 show (n:Int)∣(p1:Int)*((k*p2 % n:Nat):Int) - (p2:Int)*((k*p1 % n:Nat):Int)
 have h1:=mod_add_div (k*p1) n
 have h2:=mod_add_div (k*p2) n
 generalize k*p1 % n=r1 at *
 generalize k*p2 % n=r2 at *
 generalize k*p1 / n=t1 at *
 generalize k*p2 / n=t2 at *
 have h1':(r1:Int)+n*t1=k*p1:=by exact_mod_cast h1
 have h2':(r2:Int)+n*t2=k*p2:=by exact_mod_cast h2
 exact⟨(p2:Int)*t1 - p1*t2,by grind⟩
theorem at8 {n:Nat}(hn:1≤n)(h48:n≤48){p:Nat×Nat}(hp:inR n p)(g:good n p=true):∃ i,ac0 n (syms n) p=some i:=by
 obtain⟨s,hs,ho⟩:=be5 hn h48 hp g
 obtain⟨l,i,hi,e⟩:=symT_mem.mp hs
 have hs':s∈syms n:=symT_mem.mpr ⟨l,i,by have:=bT2 hp;omega,e⟩
 cases h:ac0 n (syms n) p with
 | some i=>exact⟨i,rfl⟩
 | none =>
  unfold ac0 at h
  have:=List.findIdx?_eq_none_iff.mp h s hs'
  rw [contains_iff_mem.mpr ho] at this
  cases this
theorem aI5 {n:Nat}{p:Nat×Nat}{i:Nat}(h:ac0 n (syms n) p=some i):good n p=true:=by
 unfold ac0 at h
 obtain⟨lt,hc,_⟩:=findIdx?_eq_some_iff_getElem.mp h
 have h1:=aX0 (contains_iff_mem.mp hc)
 rw [h1]
 exact (isLeast_iff.mp (ah6 (getElem_mem lt))).1
theorem aO3 {n:Nat}(hn:1≤n)(h48:n≤48){p q:Nat×Nat}(hp:inR n p)(h:q∈orb n p):ac0 n (syms n) p=ac0 n (syms n) q:=by
 have hq:=ak7 hn h48 hp h
 unfold ac0
 congr 1
 funext s
 rw [Bool.eq_iff_iff,contains_iff_mem,contains_iff_mem]
 exact⟨fun z=>ah5 h48 z h,fun z=>ah5 h48 z hq⟩
theorem bp5 {n:Nat}(hn:1≤n)(h48:n≤48){p q:Nat×Nat}(hp:inR n p)(hq:inR n q)(gp:good n p=true)(gq:good n q=true):ac0 n (syms n) p=ac0 n (syms n) q↔(n:Int)∣(p.1:Int)*q.2 - (p.2:Int)*q.1:=by
 constructor
 ·intro e
  obtain⟨i,h⟩:=at8 hn h48 hp gp
  have h2:=h
  rw [e] at h2
  unfold ac0 at h h2
  obtain⟨lt,hc,_⟩:=findIdx?_eq_some_iff_getElem.mp h
  obtain⟨_,hc2,_⟩:=findIdx?_eq_some_iff_getElem.mp h2
  have hs:=al4 (getElem_mem lt)
  exact bp4 (ah5 h48 (ak7 hn h48 hs (contains_iff_mem.mp hc)) (contains_iff_mem.mp hc2))
 ·exact fun c=>aO3 hn h48 hp (aR9 hn gp gq hq c)
structure Mt where
 a:Int
 b:Int
 c:Int
 d:Int
namespace Mt
def mul (m k:Mt):Mt:=⟨m.a*k.a+m.b*k.c,m.a*k.b+m.b*k.d,m.c*k.a+m.d*k.c,m.c*k.b+m.d*k.d⟩
def det (m:Mt):Int:=m.a*m.d - m.b*m.c
def bd (B:Nat)(m:Mt):Prop:=m.a.natAbs < 2 ^ B∧m.b.natAbs < 2 ^ B∧m.c.natAbs < 2 ^ B∧m.d.natAbs < 2 ^ B
theorem det_mul (m k:Mt):(m.mul k).det=m.det*k.det:=by
 unfold mul det
 grind
theorem bd_mono {B B':Nat}{m:Mt}(h:bd B m)(le:B≤B'):bd B' m:=by
 have:2 ^ B≤2 ^ B':=pow_le_pow_right (by decide) le
 obtain⟨h1,h2,h3,h4⟩:=h
 exact⟨by omega,by omega,by omega,by omega⟩
theorem bd_two {A B:Nat}{x y z w:Int}(hx:x.natAbs < 2 ^ A)(hy:y.natAbs < 2 ^ B)(hz:z.natAbs < 2 ^ A)(hw:w.natAbs < 2 ^ B):(x*y+z*w).natAbs < 2 ^ (A+B+1):=by
 have h1:=natAbs_add_le (x*y) (z*w)
 rw [natAbs_mul,natAbs_mul] at h1
 have h2:x.natAbs*y.natAbs < 2 ^ A*2 ^ B:=Nat.mul_lt_mul'' hx hy
 have h3:z.natAbs*w.natAbs < 2 ^ A*2 ^ B:=Nat.mul_lt_mul'' hz hw
 rw [pow_succ,pow_add]
 omega
theorem bd_mul {A B:Nat}{m k:Mt}(h:bd A m)(h':bd B k):bd (A+B+1) (m.mul k) :=
 ⟨bd_two h.1 h'.1 h.2.1 h'.2.2.1,bd_two h.1 h'.2.1 h.2.1 h'.2.2.2,bd_two h.2.2.1 h'.1 h.2.2.2 h'.2.2.1,bd_two h.2.2.1 h'.2.1 h.2.2.2 h'.2.2.2⟩
end Mt
def rsT (n:Nat)(u v:Int):Nat×Nat:=((u % n).toNat,(v % n).toNat)
theorem aw8 {n:Nat}(hn:1≤n)(u v:Int):inR n (rsT n u v):=by
 have h1:=emod_nonneg u (show (n:Int)≠0 by omega)
 have h2:=emod_nonneg v (show (n:Int)≠0 by omega)
 have h3:=emod_lt_of_pos u (show (0:Int) < n by omega)
 have h4:=emod_lt_of_pos v (show (0:Int) < n by omega)
 unfold rsT inR
 dsimp only
 omega
theorem af0 {n:Nat}(hn:1≤n)(u:Int):∃ w:Int,(((u % (n:Int)).toNat:Nat):Int)=u - n*w:=by
 have h1:=emod_nonneg u (show (n:Int)≠0 by omega)
 refine⟨u / n,?_⟩
 rw [Int.toNat_of_nonneg h1]
 have:=emod_add_mul_ediv u n
 omega
theorem bw6 {n:Nat}(hn:1≤n){m:Mt}(h:m.det=1):good n (rsT n m.c m.d)=true:=by
 have e:Nat.gcd (Nat.gcd (m.c % (n:Int)).toNat (m.d % (n:Int)).toNat) n=1:=by
  generalize hg:Nat.gcd (Nat.gcd (m.c % (n:Int)).toNat (m.d % (n:Int)).toNat) n=g
  have d0:(g:Int)∣(n:Int):=natCast_dvd_natCast.mpr (by rw [← hg];exact gcd_dvd_right _ _)
  have d1:(g:Int)∣(((m.c % (n:Int)).toNat:Nat):Int):=natCast_dvd_natCast.mpr (by rw [← hg];exact dvd_trans (gcd_dvd_left _ _) (gcd_dvd_left _ _))
  have d2:(g:Int)∣(((m.d % (n:Int)).toNat:Nat):Int):=natCast_dvd_natCast.mpr (by rw [← hg];exact dvd_trans (gcd_dvd_left _ _) (gcd_dvd_right _ _))
  obtain⟨w1,e1⟩:=af0 hn m.c
  obtain⟨w2,e2⟩:=af0 hn m.d
  have c1:(g:Int)∣m.c:=by
   have:m.c=(((m.c % (n:Int)).toNat:Nat):Int)+n*w1:=by omega
   rw [this]
   exact dvd_add d1 (dvd_mul_of_dvd_left d0)
  have c2:(g:Int)∣m.d:=by
   have:m.d=(((m.d % (n:Int)).toNat:Nat):Int)+n*w2:=by omega
   rw [this]
   exact dvd_add d2 (dvd_mul_of_dvd_left d0)
  have c3:(g:Int)∣1:=by
   rw [← h]
   exact dvd_sub (Int.dvd_mul_of_dvd_right c2) (Int.dvd_mul_of_dvd_right c1)
  have:=natCast_dvd_natCast.mp (show (g:Int)∣((1:Nat):Int) from c3)
  exact dvd_one.mp this
 unfold good rsT
 dsimp only
 rw [e]
 rfl
theorem bJ7 {n:Nat}(hn:1≤n)(h48:n≤48){m:Mt}(hm:m.det=1):∃ i,ac0 n (syms n) (rsT n m.c m.d)=some i:=at8 hn h48 (aw8 hn _ _) (bw6 hn hm)
def fF (a b c:Int)(u v:Int):Int:=a*v*v - b*u*v+c*u*u
def fxs (n:Nat)(a b c:Int):Nat:=((syms n).filter fun s=>decide ((n:Int)∣fF a b c s.1 s.2)).length
theorem be7 {α β:Type}[DecidableEq β](R:α→β→Prop):∀ {l1:List α} {l2:List β},l1.Nodup→(∀ x∈l1,∃ y∈l2,R x y)→(∀ x∈l1,∀ x'∈l1,∀ y,R x y→R x' y→x=x')→l1.length≤l2.length
 | [],_,_,_,_=>zero_le _
 | x::l1,l2,nd,ex,inj=>by
  obtain⟨y,hy,r⟩:=ex x mem_cons_self
  have h:=be7 R (l1:=l1) (l2:=l2.erase y) (nodup_cons.mp nd).2 (fun x' hx'=>by
   obtain⟨y',hy',r'⟩:=ex x' (mem_cons_of_mem _ hx')
   refine⟨y',(List.mem_erase_of_ne ?_).mpr hy',r'⟩
   rintro rfl
   have:=inj x mem_cons_self x' (mem_cons_of_mem _ hx') _ r r'
   subst this
   exact (nodup_cons.mp nd).1 hx') (fun a ha b hb=>inj a (mem_cons_of_mem _ ha) b (mem_cons_of_mem _ hb))
  rw [List.length_erase_of_mem hy] at h
  have:=List.length_pos_of_mem hy
  simp only [length_cons]
  omega
theorem ao0 {n:Nat}(hn:1≤n){a b c d:Int}(hd:gcd (a*d - b*c) n=1){p:Nat×Nat}(g:good n p=true):good n (rsT n (p.1*a+p.2*c) (p.1*b+p.2*d))=true:=by
 generalize hx:(p.1:Int)*a+p.2*c=x
 generalize hy:(p.1:Int)*b+p.2*d=y
 have e:Nat.gcd (Nat.gcd (x % (n:Int)).toNat (y % (n:Int)).toNat) n=1:=by
  generalize hg:Nat.gcd (Nat.gcd (x % (n:Int)).toNat (y % (n:Int)).toNat) n=g'
  have d0':g'∣n:=by rw [← hg];exact gcd_dvd_right _ _
  have d0:(g':Int)∣(n:Int):=natCast_dvd_natCast.mpr d0'
  have d1:(g':Int)∣(((x % (n:Int)).toNat:Nat):Int):=natCast_dvd_natCast.mpr (by rw [← hg];exact dvd_trans (gcd_dvd_left _ _) (gcd_dvd_left _ _))
  have d2:(g':Int)∣(((y % (n:Int)).toNat:Nat):Int):=natCast_dvd_natCast.mpr (by rw [← hg];exact dvd_trans (gcd_dvd_left _ _) (gcd_dvd_right _ _))
  obtain⟨w1,e1⟩:=af0 hn x
  obtain⟨w2,e2⟩:=af0 hn y
  have c1:(g':Int)∣x:=by
   have:x=(((x % (n:Int)).toNat:Nat):Int)+n*w1:=by omega
   rw [this]
   exact dvd_add d1 (dvd_mul_of_dvd_left d0)
  have c2:(g':Int)∣y:=by
   have:y=(((y % (n:Int)).toNat:Nat):Int)+n*w2:=by omega
   rw [this]
   exact dvd_add d2 (dvd_mul_of_dvd_left d0)
  have co:Coprime g' (a*d - b*c).natAbs:=by
   have:Coprime (a*d - b*c).natAbs n:=hd
   exact (Coprime.coprime_dvd_right d0' this).symm
  have key:∀ w:Nat,(g':Int)∣(w:Int)*(a*d - b*c)→g'∣w:=fun w h=>by
   have:=Int.natAbs_dvd_natAbs.mpr h
   rw [natAbs_mul] at this
   exact Coprime.dvd_of_dvd_mul_right co (by simpa using this)
  have k1:g'∣p.1:=key _ (by
   have:(p.1:Int)*(a*d - b*c)=x*d - y*c:=by rw [← hx,← hy];grind
   rw [this]
   exact dvd_sub (dvd_mul_of_dvd_left c1) (dvd_mul_of_dvd_left c2))
  have k2:g'∣p.2:=key _ (by
   have:(p.2:Int)*(a*d - b*c)=y*a - x*b:=by rw [← hx,← hy];grind
   rw [this]
   exact dvd_sub (dvd_mul_of_dvd_left c2) (dvd_mul_of_dvd_left c1))
  have:g'∣Nat.gcd (Nat.gcd p.1 p.2) n:=dvd_gcd (dvd_gcd k1 k2) d0'
  have g1:Nat.gcd (Nat.gcd p.1 p.2) n=1:=by unfold good at g;simpa using g
  rw [g1] at this
  exact dvd_one.mp this
 unfold good rsT
 dsimp only
 rw [e]
 rfl
theorem ao1 {n:Nat}{s:Nat×Nat}(h:s∈syms n):good n s=true:=(isLeast_iff.mp (ah6 h)).1
theorem ar9 {n:Nat}(hn:1≤n)(h48:n≤48){x y:Int}(g:good n (rsT n x y)=true){i:Nat}{s:Nat×Nat}(hs:(syms n)[i]?=some s):ac0 n (syms n) (rsT n x y)=some i↔(n:Int)∣x*s.2 - y*s.1:=by
 have hm:=mem_of_getElem? hs
 rw [← be6 hn h48 hs,bp5 hn h48 (aw8 hn _ _) (al4 hm) g (ao1 hm)]
 obtain⟨w1,e1⟩:=af0 hn x
 obtain⟨w2,e2⟩:=af0 hn y
 show (n:Int)∣(((x % (n:Int)).toNat:Nat):Int)*s.2 - (((y % (n:Int)).toNat:Nat):Int)*s.1↔_
 rw [e1,e2]
 constructor
 ·rintro ⟨t,h⟩
  exact⟨t+w1*s.2 - w2*s.1,by grind⟩
 ·rintro ⟨t,h⟩
  exact⟨t - w1*s.2+w2*s.1,by grind⟩
end Fr
namespace Fr
open PySem PySem.Spec L2
open PyProof.Rows hiding St Fr
section
variable {cmp:Nat→Nat→(Bool→Shared→Prop)→Shared→Prop}{s:Shared}
theorem be8 {n:Nat}(hc:∀ i,i+1 < n→∀ C:Bool→Shared→Prop,C false s→cmp (i+1) i C s):∀ (f k:Nat) (Q:Nat→Shared→Prop),k+f=n→1≤k→Q n s→(PySem.W.kas_asc (List.range n).toArray f k).kasWp cmp Q s
 | 0,k,Q,e,_,q=>by
  have:k=n:=by omega
  subst this
  exact q
 | f+1,k,Q,e,h,q=>by
  have at_:∀ j,j < n→(List.range n).toArray.getD j 0=j:=fun j hj=>by simp [hj]
  show cmp ((List.range n).toArray.getD k 0) ((List.range n).toArray.getD (k - 1) 0) _ s
  rw [at_ k (by omega),at_ (k - 1) (by omega)]
  obtain⟨j,rfl⟩:∃ j,k=j+1:=⟨k - 1,by omega⟩
  refine hc j (by omega) _ ?_
  exact be8 hc f (j+2) Q (by omega) (by omega) q
theorem bp6 {n:Nat}(h1:1≤n){Q:Array Nat→Shared→Prop}(hc:∀ i,i+1 < n→∀ C:Bool→Shared→Prop,C false s→cmp (i+1) i C s)(q:Q (List.range n).toArray s):(kas_sort n).kasWp cmp Q s:=by
 unfold kas_sort PySem.W.kas_count
 rw [PySem.W.KasT.kasWp_bind,PySem.W.KasT.kasWp_bind]
 refine be8 hc (n - 1) 1 _ (by omega) (le_refl _) ?_
 rw [if_pos (by simp)]
 show (if n < n then _ else _:KasT (Array Nat)).kasWp cmp Q s
 rw [if_neg (lt_irrefl n)]
 exact q
end
section
variable {prog:Program}{w:World}{A:Around}{E:Value→Shared→Prop}
theorem bj0 {s:Shared}{l:Addr}{vs:List Value}{Q:Value→Shared→Prop}(hl:s.heap.IsList l vs.toArray)(few:vs.toArray.size < 2)(q:Q (.ref (s.heap.objs.size+1)) { s with heap:=sortedAll s.heap vs ((vs.toArray.zip vs.toArray).map (·.2)) }):wpAny (model prog w) A (call (.builtin "sorted") [.ref l]) Q E s:=by
 have len:vs.length < 2:=by simpa using few
 have line:vs.length≤sizeLine:=by rw [sizeLine_eq];omega
 generalize hg:(s.heap.push (seqObj "list" #[] 0)).update s.heap.objs.size (Obj.mapSeq (·++vs.toArray))=g at *
 have gz:g.objs.size=s.heap.objs.size+1:=by subst hg;exact (Heap.size_update ..).trans (size_push' ..)
 have gl:(g.push (seqObj "list" vs.toArray 0)).get? (s.heap.objs.size+1)=some (seqObj "list" vs.toArray 0):=gz ▸ Heap.get?_push_size g rfl
 obtain⟨c,g1⟩:∃ c,((g.push (seqObj "list" vs.toArray 0)).update (s.heap.objs.size+1) (Obj.mapSeq fun _=>#[])).get? (s.heap.objs.size+1)=some (seqObj "list" #[] c):=⟨_,get?_update_seq gl _⟩
 have g2:=Heap.get?_push_of_some (seqObj "list" #[] 0) (Heap.get?_push_of_some (seqObj "tuple" vs.toArray 0) g1)
 have body:wpAny (model prog w) A.in1.in1 (Builtin.«list.sort» ⟨[.ref (s.heap.objs.size+1)],[]⟩) (fun fin s'=>fin=.done (.ret .none)∧s'={ s with heap:=sortedAll s.heap vs ((vs.toArray.zip vs.toArray).map (·.2)) }) (fun _ _=>False) { s with heap:=g.push (seqObj "list" vs.toArray 0) }:=by
  rw [list_sort_plain]
  refine wpAny_bind (listItems_at gl rfl ?_);refine wpAny_bind (listUpdate_at gl rfl ?_ (by simpa using line) (zero_le _))
  refine wpAny_bind (seqEpoch_at g1 rfl ?_);refine wpAny_bind (wpAny_newTuple ?_ line);refine wpAny_bind (wpAny_newList (wpAny_holding ?_) (zero_le _))
  show wpAny _ _ _ _ _ { s with heap:=(((g.push (seqObj "list" vs.toArray 0)).update (s.heap.objs.size+1) (Obj.mapSeq fun _=>#[])).push (seqObj "tuple" vs.toArray 0)).push (seqObj "list" #[] 0) }
  dsimp only
  rw [if_pos few,if_pos few]
  refine wpAny_bind (wpAny_pure ?_);rw [StateT.run_pure];refine wpAny_bind (wpAny_pure ?_);dsimp only
  refine wpAny_bind (seqEpoch_at g2 rfl (wpAny_bind (listUpdate_at g2 rfl ?_ (zero_le _) ?_)))
  ·rw [if_neg (by simp)]
   refine wpAny_pure ⟨rfl,?_⟩
   subst hg
   rfl
  ·show (Array.map (·.2) (vs.toArray.zip vs.toArray)).size≤_
   rw [Array.size_map,Array.size_zip]
   omega
 refine Calls.call_function_entry kind_sorted plain_sorted entry_sorted (args_sorted1 _) (wpAny_bind (m:=checkCount "sorted" 1 1 _) (wpAny_pure (wpAny_bind (collect_list hl (wpAny_bind (wpAny_newList ?_ line)) line))))
 rw [hg,gz]
 refine wpAny_bind (wpAny_holding (wpAny_call_entry slot_list_sort ⟨_,gl,rfl⟩ entry_list_sort (wpAny_mono body (fun fin s' h=>?_) fun _ _ z=>z.elim) (args_list_sort _)))
 obtain⟨rfl,rfl⟩:=h
 exact⟨_,rfl,wpAny_pure ⟨_,rfl,q⟩⟩
end
end Fr
namespace Fr
def divs (n:Nat):List Nat:=((List.range n).map (·+1)).filter fun k=>n % k == 0
def prms (n:Nat):List Nat:=(divs n).filter fun k=>(divs k).length == 2
def scN (n:Nat):Nat:=(prms n).foldl (fun m p=>m+m / p) n
def bD8 (n:Nat):Bool:=(syms n).length == scN n
theorem bT4:∀ n,n≤48→1≤n→bD8 n=true:=by decide +kernel
theorem bT5 {n:Nat}(n1:1≤n)(n2:n≤48):(syms n).length=scN n:=by
 have h:=bT4 n n2 n1
 unfold bD8 at h
 exact beq_iff_eq.mp h
noncomputable section
noncomputable def symL:List (List (Nat×Nat)):=[[],[(0,0)],[(0,1),(1,0),(1,1)],[(0,1),(1,0),(1,1),(1,2)],[(0,1),(1,0),(1,1),(1,2),(1,3),(2,1)],[(0,1),(1,0),(1,1),(1,2),(1,3),(1,4)],[(0,1),(1,0),(1,1),(1,2),(1,3),(1,4),(1,5),(2,1),(2,3),(2,5),(3,1),(3,2)],[(0,1),(1,0),(1,1),(1,2),(1,3),(1,4),(1,5),(1,6)],[(0,1),(1,0),(1,1),(1,2),(1,3),(1,4),(1,5),(1,6),(1,7),(2,1),(2,3),(4,1)],[(0,1),(1,0),(1,1),(1,2),(1,3),(1,4),(1,5),(1,6),(1,7),(1,8),(3,1),(3,2)],[(0,1),(1,0),(1,1),(1,2),(1,3),(1,4),(1,5),(1,6),(1,7),(1,8),(1,9),(2,1),(2,3),(2,5),(2,7),(2,9),(5,1),(5,2)],[(0,1),(1,0),(1,1),(1,2),(1,3),(1,4),(1,5),(1,6),(1,7),(1,8),(1,9),(1,10)],[(0,1),(1,0),(1,1),(1,2),(1,3),(1,4),(1,5),(1,6),(1,7),(1,8),(1,9),(1,10),(1,11),(2,1),(2,3),(2,5),(3,1),(3,2),(3,4),(3,7),(4,1),(4,3),(4,5),(6,1)],[(0,1),(1,0),(1,1),(1,2),(1,3),(1,4),(1,5),(1,6),(1,7),(1,8),(1,9),(1,10),(1,11),(1,12)],[(0,1),(1,0),(1,1),(1,2),(1,3),(1,4),(1,5),(1,6),(1,7),(1,8),(1,9),(1,10),(1,11),(1,12),(1,13),(2,1),(2,3),(2,5),(2,7),(2,9),(2,11),(2,13),(7,1),(7,2)],[(0,1),(1,0),(1,1),(1,2),(1,3),(1,4),(1,5),(1,6),(1,7),(1,8),(1,9),(1,10),(1,11),(1,12),(1,13),(1,14),(3,1),(3,2),(3,4),(3,5),(3,8),(5,1),(5,2),(5,3)],[(0,1),(1,0),(1,1),(1,2),(1,3),(1,4),(1,5),(1,6),(1,7),(1,8),(1,9),(1,10),(1,11),(1,12),(1,13),(1,14),(1,15),(2,1),(2,3),(2,5),(2,7),(4,1),(4,3),(8,1)],[(0,1),(1,0),(1,1),(1,2),(1,3),(1,4),(1,5),(1,6),(1,7),(1,8),(1,9),(1,10),(1,11),(1,12),(1,13),(1,14),(1,15),(1,16)],[(0,1),(1,0),(1,1),(1,2),(1,3),(1,4),(1,5),(1,6),(1,7),(1,8),(1,9),(1,10),(1,11),(1,12),(1,13),(1,14),(1,15),(1,16),(1,17),(2,1),(2,3),(2,5),(2,7),(2,9),(2,11),(2,13),(2,15),(2,17),(3,1),(3,2),(3,4),(3,5),(6,1),(6,5),(9,1),(9,2)],[(0,1),(1,0),(1,1),(1,2),(1,3),(1,4),(1,5),(1,6),(1,7),(1,8),(1,9),(1,10),(1,11),(1,12),(1,13),(1,14),(1,15),(1,16),(1,17),(1,18)],[(0,1),(1,0),(1,1),(1,2),(1,3),(1,4),(1,5),(1,6),(1,7),(1,8),(1,9),(1,10),(1,11),(1,12),(1,13),(1,14),(1,15),(1,16),(1,17),(1,18),(1,19),(2,1),(2,3),(2,5),(2,7),(2,9),(4,1),(4,3),(4,5),(4,7),(4,9),(5,1),(5,2),(5,3),(5,4),(10,1)],[(0,1),(1,0),(1,1),(1,2),(1,3),(1,4),(1,5),(1,6),(1,7),(1,8),(1,9),(1,10),(1,11),(1,12),(1,13),(1,14),(1,15),(1,16),(1,17),(1,18),(1,19),(1,20),(3,1),(3,2),(3,4),(3,5),(3,7),(3,10),(3,13),(7,1),(7,2),(7,3)],[(0,1),(1,0),(1,1),(1,2),(1,3),(1,4),(1,5),(1,6),(1,7),(1,8),(1,9),(1,10),(1,11),(1,12),(1,13),(1,14),(1,15),(1,16),(1,17),(1,18),(1,19),(1,20),(1,21),(2,1),(2,3),(2,5),(2,7),(2,9),(2,11),(2,13),(2,15),(2,17),(2,19),(2,21),(11,1),(11,2)],[(0,1),(1,0),(1,1),(1,2),(1,3),(1,4),(1,5),(1,6),(1,7),(1,8),(1,9),(1,10),(1,11),(1,12),(1,13),(1,14),(1,15),(1,16),(1,17),(1,18),(1,19),(1,20),(1,21),(1,22)],[(0,1),(1,0),(1,1),(1,2),(1,3),(1,4),(1,5),(1,6),(1,7),(1,8),(1,9),(1,10),(1,11),(1,12),(1,13),(1,14),(1,15),(1,16),(1,17),(1,18),(1,19),(1,20),(1,21),(1,22),(1,23),(2,1),(2,3),(2,5),(2,7),(2,9),(2,11),(3,1),(3,2),(3,4),(3,5),(3,7),(3,8),(3,11),(3,14),(4,1),(4,3),(4,5),(6,1),(6,7),(8,1),(8,3),(8,5),(12,1)],[(0,1),(1,0),(1,1),(1,2),(1,3),(1,4),(1,5),(1,6),(1,7),(1,8),(1,9),(1,10),(1,11),(1,12),(1,13),(1,14),(1,15),(1,16),(1,17),(1,18),(1,19),(1,20),(1,21),(1,22),(1,23),(1,24),(5,1),(5,2),(5,3),(5,4)],[(0,1),(1,0),(1,1),(1,2),(1,3),(1,4),(1,5),(1,6),(1,7),(1,8),(1,9),(1,10),(1,11),(1,12),(1,13),(1,14),(1,15),(1,16),(1,17),(1,18),(1,19),(1,20),(1,21),(1,22),(1,23),(1,24),(1,25),(2,1),(2,3),(2,5),(2,7),(2,9),(2,11),(2,13),(2,15),(2,17),(2,19),(2,21),(2,23),(2,25),(13,1),(13,2)],[(0,1),(1,0),(1,1),(1,2),(1,3),(1,4),(1,5),(1,6),(1,7),(1,8),(1,9),(1,10),(1,11),(1,12),(1,13),(1,14),(1,15),(1,16),(1,17),(1,18),(1,19),(1,20),(1,21),(1,22),(1,23),(1,24),(1,25),(1,26),(3,1),(3,2),(3,4),(3,5),(3,7),(3,8),(9,1),(9,2)],[(0,1),(1,0),(1,1),(1,2),(1,3),(1,4),(1,5),(1,6),(1,7),(1,8),(1,9),(1,10),(1,11),(1,12),(1,13),(1,14),(1,15),(1,16),(1,17),(1,18),(1,19),(1,20),(1,21),(1,22),(1,23),(1,24),(1,25),(1,26),(1,27),(2,1),(2,3),(2,5),(2,7),(2,9),(2,11),(2,13),(4,1),(4,3),(4,5),(4,7),(4,9),(4,11),(4,13),(7,1),(7,2),(7,3),(7,4),(14,1)],[(0,1),(1,0),(1,1),(1,2),(1,3),(1,4),(1,5),(1,6),(1,7),(1,8),(1,9),(1,10),(1,11),(1,12),(1,13),(1,14),(1,15),(1,16),(1,17),(1,18),(1,19),(1,20),(1,21),(1,22),(1,23),(1,24),(1,25),(1,26),(1,27),(1,28)],[(0,1),(1,0),(1,1),(1,2),(1,3),(1,4),(1,5),(1,6),(1,7),(1,8),(1,9),(1,10),(1,11),(1,12),(1,13),(1,14),(1,15),(1,16),(1,17),(1,18),(1,19),(1,20),(1,21),(1,22),(1,23),(1,24),(1,25),(1,26),(1,27),(1,28),(1,29),(2,1),(2,3),(2,5),(2,7),(2,9),(2,11),(2,13),(2,15),(2,17),(2,19),(2,21),(2,23),(2,25),(2,27),(2,29),(3,1),(3,2),(3,4),(3,5),(3,7),(3,8),(3,10),(3,13),(3,16),(3,19),(5,1),(5,2),(5,3),(5,4),(5,6),(5,11),(6,1),(6,5),(6,7),(6,13),(6,19),(10,1),(10,3),(10,11),(15,1),(15,2)],[(0,1),(1,0),(1,1),(1,2),(1,3),(1,4),(1,5),(1,6),(1,7),(1,8),(1,9),(1,10),(1,11),(1,12),(1,13),(1,14),(1,15),(1,16),(1,17),(1,18),(1,19),(1,20),(1,21),(1,22),(1,23),(1,24),(1,25),(1,26),(1,27),(1,28),(1,29),(1,30)],[(0,1),(1,0),(1,1),(1,2),(1,3),(1,4),(1,5),(1,6),(1,7),(1,8),(1,9),(1,10),(1,11),(1,12),(1,13),(1,14),(1,15),(1,16),(1,17),(1,18),(1,19),(1,20),(1,21),(1,22),(1,23),(1,24),(1,25),(1,26),(1,27),(1,28),(1,29),(1,30),(1,31),(2,1),(2,3),(2,5),(2,7),(2,9),(2,11),(2,13),(2,15),(4,1),(4,3),(4,5),(4,7),(8,1),(8,3),(16,1)],[(0,1),(1,0),(1,1),(1,2),(1,3),(1,4),(1,5),(1,6),(1,7),(1,8),(1,9),(1,10),(1,11),(1,12),(1,13),(1,14),(1,15),(1,16),(1,17),(1,18),(1,19),(1,20),(1,21),(1,22),(1,23),(1,24),(1,25),(1,26),(1,27),(1,28),(1,29),(1,30),(1,31),(1,32),(3,1),(3,2),(3,4),(3,5),(3,7),(3,8),(3,10),(3,11),(3,14),(3,17),(3,20),(11,1),(11,2),(11,3)],[(0,1),(1,0),(1,1),(1,2),(1,3),(1,4),(1,5),(1,6),(1,7),(1,8),(1,9),(1,10),(1,11),(1,12),(1,13),(1,14),(1,15),(1,16),(1,17),(1,18),(1,19),(1,20),(1,21),(1,22),(1,23),(1,24),(1,25),(1,26),(1,27),(1,28),(1,29),(1,30),(1,31),(1,32),(1,33),(2,1),(2,3),(2,5),(2,7),(2,9),(2,11),(2,13),(2,15),(2,17),(2,19),(2,21),(2,23),(2,25),(2,27),(2,29),(2,31),(2,33),(17,1),(17,2)],[(0,1),(1,0),(1,1),(1,2),(1,3),(1,4),(1,5),(1,6),(1,7),(1,8),(1,9),(1,10),(1,11),(1,12),(1,13),(1,14),(1,15),(1,16),(1,17),(1,18),(1,19),(1,20),(1,21),(1,22),(1,23),(1,24),(1,25),(1,26),(1,27),(1,28),(1,29),(1,30),(1,31),(1,32),(1,33),(1,34),(5,1),(5,2),(5,3),(5,4),(5,6),(5,7),(5,12),(7,1),(7,2),(7,3),(7,4),(7,5)],[(0,1),(1,0),(1,1),(1,2),(1,3),(1,4),(1,5),(1,6),(1,7),(1,8),(1,9),(1,10),(1,11),(1,12),(1,13),(1,14),(1,15),(1,16),(1,17),(1,18),(1,19),(1,20),(1,21),(1,22),(1,23),(1,24),(1,25),(1,26),(1,27),(1,28),(1,29),(1,30),(1,31),(1,32),(1,33),(1,34),(1,35),(2,1),(2,3),(2,5),(2,7),(2,9),(2,11),(2,13),(2,15),(2,17),(3,1),(3,2),(3,4),(3,5),(3,7),(3,8),(3,10),(3,11),(4,1),(4,3),(4,5),(4,7),(4,9),(4,11),(4,13),(4,15),(4,17),(6,1),(6,5),(9,1),(9,2),(9,4),(9,7),(12,1),(12,5),(18,1)],[(0,1),(1,0),(1,1),(1,2),(1,3),(1,4),(1,5),(1,6),(1,7),(1,8),(1,9),(1,10),(1,11),(1,12),(1,13),(1,14),(1,15),(1,16),(1,17),(1,18),(1,19),(1,20),(1,21),(1,22),(1,23),(1,24),(1,25),(1,26),(1,27),(1,28),(1,29),(1,30),(1,31),(1,32),(1,33),(1,34),(1,35),(1,36)],[(0,1),(1,0),(1,1),(1,2),(1,3),(1,4),(1,5),(1,6),(1,7),(1,8),(1,9),(1,10),(1,11),(1,12),(1,13),(1,14),(1,15),(1,16),(1,17),(1,18),(1,19),(1,20),(1,21),(1,22),(1,23),(1,24),(1,25),(1,26),(1,27),(1,28),(1,29),(1,30),(1,31),(1,32),(1,33),(1,34),(1,35),(1,36),(1,37),(2,1),(2,3),(2,5),(2,7),(2,9),(2,11),(2,13),(2,15),(2,17),(2,19),(2,21),(2,23),(2,25),(2,27),(2,29),(2,31),(2,33),(2,35),(2,37),(19,1),(19,2)],[(0,1),(1,0),(1,1),(1,2),(1,3),(1,4),(1,5),(1,6),(1,7),(1,8),(1,9),(1,10),(1,11),(1,12),(1,13),(1,14),(1,15),(1,16),(1,17),(1,18),(1,19),(1,20),(1,21),(1,22),(1,23),(1,24),(1,25),(1,26),(1,27),(1,28),(1,29),(1,30),(1,31),(1,32),(1,33),(1,34),(1,35),(1,36),(1,37),(1,38),(3,1),(3,2),(3,4),(3,5),(3,7),(3,8),(3,10),(3,11),(3,13),(3,16),(3,19),(3,22),(3,25),(13,1),(13,2),(13,3)],[(0,1),(1,0),(1,1),(1,2),(1,3),(1,4),(1,5),(1,6),(1,7),(1,8),(1,9),(1,10),(1,11),(1,12),(1,13),(1,14),(1,15),(1,16),(1,17),(1,18),(1,19),(1,20),(1,21),(1,22),(1,23),(1,24),(1,25),(1,26),(1,27),(1,28),(1,29),(1,30),(1,31),(1,32),(1,33),(1,34),(1,35),(1,36),(1,37),(1,38),(1,39),(2,1),(2,3),(2,5),(2,7),(2,9),(2,11),(2,13),(2,15),(2,17),(2,19),(4,1),(4,3),(4,5),(4,7),(4,9),(5,1),(5,2),(5,3),(5,4),(5,6),(5,7),(5,8),(5,13),(8,1),(8,3),(8,5),(8,7),(8,9),(10,1),(10,3),(20,1)],[(0,1),(1,0),(1,1),(1,2),(1,3),(1,4),(1,5),(1,6),(1,7),(1,8),(1,9),(1,10),(1,11),(1,12),(1,13),(1,14),(1,15),(1,16),(1,17),(1,18),(1,19),(1,20),(1,21),(1,22),(1,23),(1,24),(1,25),(1,26),(1,27),(1,28),(1,29),(1,30),(1,31),(1,32),(1,33),(1,34),(1,35),(1,36),(1,37),(1,38),(1,39),(1,40)],[(0,1),(1,0),(1,1),(1,2),(1,3),(1,4),(1,5),(1,6),(1,7),(1,8),(1,9),(1,10),(1,11),(1,12),(1,13),(1,14),(1,15),(1,16),(1,17),(1,18),(1,19),(1,20),(1,21),(1,22),(1,23),(1,24),(1,25),(1,26),(1,27),(1,28),(1,29),(1,30),(1,31),(1,32),(1,33),(1,34),(1,35),(1,36),(1,37),(1,38),(1,39),(1,40),(1,41),(2,1),(2,3),(2,5),(2,7),(2,9),(2,11),(2,13),(2,15),(2,17),(2,19),(2,21),(2,23),(2,25),(2,27),(2,29),(2,31),(2,33),(2,35),(2,37),(2,39),(2,41),(3,1),(3,2),(3,4),(3,5),(3,7),(3,8),(3,10),(3,11),(3,13),(3,14),(3,17),(3,20),(3,23),(3,26),(6,1),(6,5),(6,7),(6,11),(6,13),(6,17),(6,23),(7,1),(7,2),(7,3),(7,4),(7,5),(7,6),(14,1),(14,3),(14,5),(21,1),(21,2)],[(0,1),(1,0),(1,1),(1,2),(1,3),(1,4),(1,5),(1,6),(1,7),(1,8),(1,9),(1,10),(1,11),(1,12),(1,13),(1,14),(1,15),(1,16),(1,17),(1,18),(1,19),(1,20),(1,21),(1,22),(1,23),(1,24),(1,25),(1,26),(1,27),(1,28),(1,29),(1,30),(1,31),(1,32),(1,33),(1,34),(1,35),(1,36),(1,37),(1,38),(1,39),(1,40),(1,41),(1,42)],[(0,1),(1,0),(1,1),(1,2),(1,3),(1,4),(1,5),(1,6),(1,7),(1,8),(1,9),(1,10),(1,11),(1,12),(1,13),(1,14),(1,15),(1,16),(1,17),(1,18),(1,19),(1,20),(1,21),(1,22),(1,23),(1,24),(1,25),(1,26),(1,27),(1,28),(1,29),(1,30),(1,31),(1,32),(1,33),(1,34),(1,35),(1,36),(1,37),(1,38),(1,39),(1,40),(1,41),(1,42),(1,43),(2,1),(2,3),(2,5),(2,7),(2,9),(2,11),(2,13),(2,15),(2,17),(2,19),(2,21),(4,1),(4,3),(4,5),(4,7),(4,9),(4,11),(4,13),(4,15),(4,17),(4,19),(4,21),(11,1),(11,2),(11,3),(11,4),(22,1)],[(0,1),(1,0),(1,1),(1,2),(1,3),(1,4),(1,5),(1,6),(1,7),(1,8),(1,9),(1,10),(1,11),(1,12),(1,13),(1,14),(1,15),(1,16),(1,17),(1,18),(1,19),(1,20),(1,21),(1,22),(1,23),(1,24),(1,25),(1,26),(1,27),(1,28),(1,29),(1,30),(1,31),(1,32),(1,33),(1,34),(1,35),(1,36),(1,37),(1,38),(1,39),(1,40),(1,41),(1,42),(1,43),(1,44),(3,1),(3,2),(3,4),(3,5),(3,7),(3,8),(3,10),(3,11),(3,13),(3,14),(5,1),(5,2),(5,3),(5,4),(5,6),(5,7),(5,8),(5,9),(5,14),(9,1),(9,2),(9,4),(9,5),(9,8),(15,1),(15,2)],[(0,1),(1,0),(1,1),(1,2),(1,3),(1,4),(1,5),(1,6),(1,7),(1,8),(1,9),(1,10),(1,11),(1,12),(1,13),(1,14),(1,15),(1,16),(1,17),(1,18),(1,19),(1,20),(1,21),(1,22),(1,23),(1,24),(1,25),(1,26),(1,27),(1,28),(1,29),(1,30),(1,31),(1,32),(1,33),(1,34),(1,35),(1,36),(1,37),(1,38),(1,39),(1,40),(1,41),(1,42),(1,43),(1,44),(1,45),(2,1),(2,3),(2,5),(2,7),(2,9),(2,11),(2,13),(2,15),(2,17),(2,19),(2,21),(2,23),(2,25),(2,27),(2,29),(2,31),(2,33),(2,35),(2,37),(2,39),(2,41),(2,43),(2,45),(23,1),(23,2)],[(0,1),(1,0),(1,1),(1,2),(1,3),(1,4),(1,5),(1,6),(1,7),(1,8),(1,9),(1,10),(1,11),(1,12),(1,13),(1,14),(1,15),(1,16),(1,17),(1,18),(1,19),(1,20),(1,21),(1,22),(1,23),(1,24),(1,25),(1,26),(1,27),(1,28),(1,29),(1,30),(1,31),(1,32),(1,33),(1,34),(1,35),(1,36),(1,37),(1,38),(1,39),(1,40),(1,41),(1,42),(1,43),(1,44),(1,45),(1,46)],[(0,1),(1,0),(1,1),(1,2),(1,3),(1,4),(1,5),(1,6),(1,7),(1,8),(1,9),(1,10),(1,11),(1,12),(1,13),(1,14),(1,15),(1,16),(1,17),(1,18),(1,19),(1,20),(1,21),(1,22),(1,23),(1,24),(1,25),(1,26),(1,27),(1,28),(1,29),(1,30),(1,31),(1,32),(1,33),(1,34),(1,35),(1,36),(1,37),(1,38),(1,39),(1,40),(1,41),(1,42),(1,43),(1,44),(1,45),(1,46),(1,47),(2,1),(2,3),(2,5),(2,7),(2,9),(2,11),(2,13),(2,15),(2,17),(2,19),(2,21),(2,23),(3,1),(3,2),(3,4),(3,5),(3,7),(3,8),(3,10),(3,11),(3,13),(3,14),(3,16),(3,19),(3,22),(3,25),(3,28),(3,31),(4,1),(4,3),(4,5),(4,7),(4,9),(4,11),(6,1),(6,5),(6,7),(6,11),(8,1),(8,3),(8,5),(12,1),(12,7),(16,1),(16,3),(16,5),(24,1)]]
theorem bw7:∀ n,n≤12→1≤n→syms n=symL.getD n []:=by decide +kernel
theorem bw8:∀ n,n≤18→13≤n→syms n=symL.getD n []:=by decide +kernel
theorem bw9:∀ n,n≤23→19≤n→syms n=symL.getD n []:=by decide +kernel
theorem bx0:∀ n,n≤27→24≤n→syms n=symL.getD n []:=by decide +kernel
theorem bx1:∀ n,n≤30→28≤n→syms n=symL.getD n []:=by decide +kernel
theorem bx2:∀ n,n≤33→31≤n→syms n=symL.getD n []:=by decide +kernel
theorem bx3:∀ n,n≤36→34≤n→syms n=symL.getD n []:=by decide +kernel
theorem bx4:∀ n,n≤39→37≤n→syms n=symL.getD n []:=by decide +kernel
theorem bx5:∀ n,n≤41→40≤n→syms n=symL.getD n []:=by decide +kernel
theorem bx6:∀ n,n≤43→42≤n→syms n=symL.getD n []:=by decide +kernel
theorem bp7:∀ n,n≤45→44≤n→syms n=symL.getD n []:=by decide +kernel
theorem bp8:∀ n,n≤47→46≤n→syms n=symL.getD n []:=by decide +kernel
theorem bp9:∀ n,n≤48→48≤n→syms n=symL.getD n []:=by decide +kernel
theorem bJ8:∀ n,n≤48→1≤n→syms n=symL.getD n []:=fun n h2 h1=>by
 rcases (by omega:(1≤n∧n≤12)∨(13≤n∧n≤18)∨(19≤n∧n≤23)∨(24≤n∧n≤27)∨(28≤n∧n≤30)∨(31≤n∧n≤33)∨(34≤n∧n≤36)∨(37≤n∧n≤39)∨(40≤n∧n≤41)∨(42≤n∧n≤43)∨(44≤n∧n≤45)∨(46≤n∧n≤47)∨(48≤n∧n≤48)) with h | h | h | h | h | h | h | h | h | h | h | h | h
 ·exact bw7 n h.2 h.1
 ·exact bw8 n h.2 h.1
 ·exact bw9 n h.2 h.1
 ·exact bx0 n h.2 h.1
 ·exact bx1 n h.2 h.1
 ·exact bx2 n h.2 h.1
 ·exact bx3 n h.2 h.1
 ·exact bx4 n h.2 h.1
 ·exact bx5 n h.2 h.1
 ·exact bx6 n h.2 h.1
 ·exact bp7 n h.2 h.1
 ·exact bp8 n h.2 h.1
 ·exact bp9 n h.2 h.1
end
def itr (π:Nat→Nat):Nat→Nat→Nat
 | 0,x=>x
 | j+1,x=>π (itr π j x)
theorem af1 (π:Nat→Nat)(i x:Nat):∀ j,itr π (j+i) x=itr π j (itr π i x)
 | 0=>by rw [Nat.zero_add];rfl
 | j+1=>by
  rw [Nat.add_right_comm]
  show π (itr π (j+i) x)=_
  rw [af1 π i x j]
  rfl
structure Cyc (π:Nat→Nat) (N k:Nat):Prop where
 pos:1≤k
 lt:∀ i,i < N→π i < N
 cy:∀ i,i < N→itr π k i=i
variable {π:Nat→Nat}{N k:Nat}
theorem Cyc.it (h:Cyc π N k){x:Nat}(hx:x < N):∀ j,itr π j x < N
 | 0=>hx
 | j+1=>h.lt _ (h.it hx j)
theorem aO4 {r x:Nat}(e:itr π r x=x):∀ m,itr π (m*r) x=x
 | 0=>by rw [zero_mul];rfl
 | m+1=>by rw [add_mul,one_mul,af1,e,aO4 e m]
theorem be9 {r x:Nat}(e:itr π r x=x)(j:Nat):itr π j x=itr π (j % r) x:=by
 have:j=j % r+(j / r)*r:=by rw [mul_comm];exact (mod_add_div j r).symm
 conv=>lhs;rw [this]
 rw [af1,aO4 e]
def rl (π:Nat→Nat)(k f:Nat):Nat:=((List.range k).find? fun j=>itr π (j+1) f == f).getD 0+1
def rg (π:Nat→Nat)(k f:Nat):List Nat:=(List.range (rl π k f)).map fun j=>itr π j f
theorem aL8 (f:Nat):1≤rl π k f:=by unfold rl;omega
theorem aq6 (h:Cyc π N k){f:Nat}(hf:f < N):itr π (rl π k f) f=f∧rl π k f≤k∧∀ j,1≤j→j < rl π k f→itr π j f≠f:=by
 unfold rl
 cases e:(List.range k).find? fun j=>itr π (j+1) f == f with
 | none =>
  have:=List.find?_eq_none.mp e (k - 1) (mem_range.mpr (by have:=h.pos;omega))
  rw [show k - 1+1=k by have:=h.pos;omega,h.cy f hf] at this
  simp at this
 | some j =>
  obtain⟨h1,i,hi,e1,h2⟩:=List.find?_eq_some_iff_getElem.mp e
  rw [getElem_range] at e1
  subst e1
  rw [length_range] at hi
  refine⟨by simpa using h1,hi,fun j' j1 j2=>?_⟩
  have:=h2 (j' - 1) (by simp only [Option.getD_some] at j2;omega)
  rw [getElem_range,show j' - 1+1=j' by omega] at this
  simpa using this
theorem aT8 (h:Cyc π N k){f r:Nat}(hf:f < N)(r1:1≤r)(e:itr π r f=f)(lo:∀ j,1≤j→j < r→itr π j f≠f):rl π k f=r:=by
 obtain⟨a,_,c⟩:=aq6 h hf
 rcases Nat.lt_trichotomy (rl π k f) r with z | z | z
 ·exact absurd a (lo _ (aL8 f) z)
 ·exact z
 ·exact absurd e (c r r1 z)
theorem ag8 (h:Cyc π N k){f x:Nat}(hf:f < N):x∈rg π k f↔∃ j,x=itr π j f:=by
 obtain⟨a,_,_⟩:=aq6 h hf
 unfold rg
 rw [mem_map]
 constructor
 ·rintro ⟨j,_,e⟩
  exact⟨j,e.symm⟩
 ·rintro ⟨j,e⟩
  exact⟨j % rl π k f,mem_range.mpr (mod_lt _ (aL8 f)),by rw [e,be9 a j]⟩
theorem bf0 (h:Cyc π N k){f:Nat}(hf:f < N):f∈rg π k f:=(ag8 h hf).mpr ⟨0,rfl⟩
theorem az9 (h:Cyc π N k){f x:Nat}(hf:f < N)(hx:x∈rg π k f):x < N:=by
 obtain⟨j,rfl⟩:=(ag8 h hf).mp hx
 exact h.it hf j
theorem aD0 (h:Cyc π N k){f x:Nat}(hf:f < N)(hx:x∈rg π k f):f∈rg π k x:=by
 have hx':=az9 h hf hx
 obtain⟨j,rfl⟩:=(ag8 h hf).mp hx
 refine (ag8 h hx').mpr ⟨(k - 1)*j,?_⟩
 rw [← af1,show (k - 1)*j+j=j*k by
  have e:k=(k - 1)+1:=by have:=h.pos;omega
  conv=>rhs;rw [e,Nat.mul_add,Nat.mul_one,mul_comm],aO4 (h.cy f hf)]
theorem aI6 (h:Cyc π N k){f x y:Nat}(hf:f < N)(hx:x∈rg π k f)(hy:y∈rg π k x):y∈rg π k f:=by
 have hx':=az9 h hf hx
 obtain⟨j,rfl⟩:=(ag8 h hf).mp hx
 obtain⟨i,rfl⟩:=(ag8 h hx').mp hy
 exact (ag8 h hf).mpr ⟨i+j,(af1 π j f i).symm⟩
def isF (π:Nat→Nat)(k g:Nat):Bool:=!(List.range g).any fun g'=>(rg π k g').contains g
def gs (π:Nat→Nat)(k f:Nat):List Nat:=(List.range f).filter (isF π k)
theorem isF_iff {g:Nat}:isF π k g=true↔∀ g',g' < g→g ∉ rg π k g':=by
 unfold isF
 rw [Bool.not_eq_true',any_eq_false]
 constructor
 ·intro h g' hg' hm
  exact h g' (mem_range.mpr hg') (contains_iff_mem.mpr hm)
 ·intro h g' hg' hm
  exact h g' (mem_range.mp hg') (contains_iff_mem.mp hm)
theorem bf1 (f:Nat):gs π k (f+1)=gs π k f++(if isF π k f=true then [f] else []):=by
 unfold gs
 rw [range_succ,filter_append]
 by_cases c:isF π k f=true
 ·rw [if_pos c,filter_cons_of_pos c];rfl
 ·rw [if_neg c,filter_cons_of_neg c];rfl
theorem aH9 (h:Cyc π N k){g x:Nat}(hg:g < N)(f1:isF π k g=true)(hx:x∈rg π k g):g≤x:=by
 apply Nat.le_of_not_lt
 intro lt
 exact isF_iff.mp f1 x lt (aD0 h hg hx)
theorem bf2 (h:Cyc π N k){g:Nat}(hg:g < N):rl π k g=1↔π g=g:=by
 constructor
 ·intro e
  have:=(aq6 h hg).1
  rw [e] at this
  exact this
 ·intro e
  exact aT8 h hg (le_refl _) e (fun j j1 j2=>by omega)
theorem ones (h:Cyc π N k):((gs π k N).filter fun g=>rl π k g == 1).length=((List.range N).filter fun i=>π i == i).length:=by
 unfold gs
 rw [List.filter_filter]
 refine congrArg _ (filter_congr fun g hg=>?_)
 have hg':=mem_range.mp hg
 rw [Bool.eq_iff_iff,Bool.and_eq_true,beq_iff_eq,beq_iff_eq,bf2 h hg']
 refine⟨fun z=>z.1,fun e=>⟨e,isF_iff.mpr fun g' lt hm=>?_⟩⟩
 have h1:=aD0 h (lt_trans lt hg') hm
 obtain⟨j,ej⟩:=(ag8 h hg').mp h1
 have:∀ j,itr π j g=g:=fun j=>by
  induction j with
  | zero=>rfl
  | succ j ih=>show π (itr π j g)=g;rw [ih,e]
 rw [this j] at ej
 omega
end Fr
namespace Fr
def mv (n:Nat)(m:Mt)(p:Nat×Nat):Nat×Nat:=rsT n (p.1*m.a+p.2*m.c) (p.1*m.b+p.2*m.d)
theorem aD1 {n:Nat}(hn:1≤n)(m:Mt)(p:Nat×Nat):inR n (mv n m p):=aw8 hn _ _
theorem aD2 {n:Nat}{x y:Int}(h:(n:Int)∣x - y):x % (n:Int)=y % (n:Int):=Int.emod_eq_emod_iff_emod_sub_eq_zero.mpr (Int.emod_eq_zero_of_dvd h)
theorem ca7 {n:Nat}(hn:1≤n)(m k:Mt)(p:Nat×Nat):mv n k (mv n m p)=mv n (m.mul k) p:=by
 obtain⟨w1,e1⟩:=af0 hn ((p.1:Int)*m.a+p.2*m.c)
 obtain⟨w2,e2⟩:=af0 hn ((p.1:Int)*m.b+p.2*m.d)
 refine Prod.ext (congrArg toNat (aD2 ?_)) (congrArg toNat (aD2 ?_))
 ·show (n:Int)∣(((((p.1:Int)*m.a+p.2*m.c) % (n:Int)).toNat:Nat):Int)*k.a+(((((p.1:Int)*m.b+p.2*m.d) % (n:Int)).toNat:Nat):Int)*k.c - ((p.1:Int)*(m.a*k.a+m.b*k.c)+p.2*(m.c*k.a+m.d*k.c))
  rw [e1,e2]
  exact⟨-(w1*k.a+w2*k.c),by grind⟩
 ·show (n:Int)∣(((((p.1:Int)*m.a+p.2*m.c) % (n:Int)).toNat:Nat):Int)*k.b+(((((p.1:Int)*m.b+p.2*m.d) % (n:Int)).toNat:Nat):Int)*k.d - ((p.1:Int)*(m.a*k.b+m.b*k.d)+p.2*(m.c*k.b+m.d*k.d))
  rw [e1,e2]
  exact⟨-(w1*k.b+w2*k.d),by grind⟩
theorem bq0 {n:Nat}(hn:1≤n)(m:Mt){p q:Nat×Nat}(h:q∈orb n p):mv n m q∈orb n (mv n m p):=by
 obtain⟨k,hk,rfl⟩:=orb_mem.mp h
 refine orb_mem.mpr ⟨k,hk,?_⟩
 have cast:∀ u:Nat,∃ w:Int,((k*u % n:Nat):Int)=k*u - n*w:=fun u=>⟨((k*u / n:Nat):Int),by
  have:=mod_add_div (k*u) n
  have h2:((k*u % n:Nat):Int)+n*((k*u / n:Nat):Int)=k*u:=by exact_mod_cast this
  omega⟩
 obtain⟨w1,e1⟩:=cast p.1
 obtain⟨w2,e2⟩:=cast p.2
 have key:∀ a c:Int,k*(((p.1:Int)*a+p.2*c) % (n:Int)).toNat % n=((((k*p.1 % n:Nat):Int)*a+((k*p.2 % n:Nat):Int)*c) % (n:Int)).toNat:=fun a c=>by
  obtain⟨w3,e3⟩:=af0 hn ((p.1:Int)*a+p.2*c)
  have h0:=emod_nonneg (((k*p.1 % n:Nat):Int)*a+((k*p.2 % n:Nat):Int)*c) (show (n:Int)≠0 by omega)
  have:((k*(((p.1:Int)*a+p.2*c) % (n:Int)).toNat % n:Nat):Int)=(((k*p.1 % n:Nat):Int)*a+((k*p.2 % n:Nat):Int)*c) % (n:Int):=by
   rw [natCast_emod,natCast_mul]
   refine aD2 ?_
   rw [e1,e2,e3]
   exact⟨w1*a+w2*c - k*w3,by grind⟩
  omega
 exact Prod.ext (key m.a m.c) (key m.b m.d)
def pwM (m:Mt):Nat→Mt
 | 0=>⟨1,0,0,1⟩
 | j+1=>(pwM m j).mul m
theorem bT6 {n:Nat}(hn:1≤n){p:Nat×Nat}(hp:inR n p):mv n ⟨1,0,0,1⟩ p=p:=by
 have key:∀ u v:Nat,u < n→(((u:Int)*1+v*0) % (n:Int)).toNat=u:=fun u v h=>by
  rw [mul_one,mul_zero,add_zero,← natCast_emod,toNat_natCast,mod_eq_of_lt h]
 have key2:∀ u v:Nat,v < n→(((u:Int)*0+v*1) % (n:Int)).toNat=v:=fun u v h=>by
  rw [mul_one,mul_zero,zero_add,← natCast_emod,toNat_natCast,mod_eq_of_lt h]
 exact Prod.ext (key _ _ hp.1) (key2 _ _ hp.2)
theorem bJ9 {n:Nat}(hn:1≤n){m:Mt}(hd:gcd m.det n=1)(hb:(n:Int)∣m.b)(hc:(n:Int)∣m.c)(ha:(n:Int)∣m.d - m.a){p:Nat×Nat}(g:good n p=true):mv n m p∈orb n p:=by
 refine aR9 hn g (ao0 hn hd g) (aD1 hn m p) ?_
 obtain⟨w1,e1⟩:=af0 hn ((p.1:Int)*m.a+p.2*m.c)
 obtain⟨w2,e2⟩:=af0 hn ((p.1:Int)*m.b+p.2*m.d)
 obtain⟨x,ex⟩:=hb
 obtain⟨y,ey⟩:=hc
 obtain⟨z,ez⟩:=ha
 show (n:Int)∣(p.1:Int)*(((((p.1:Int)*m.b+p.2*m.d) % (n:Int)).toNat:Nat):Int) - (p.2:Int)*(((((p.1:Int)*m.a+p.2*m.c) % (n:Int)).toNat:Nat):Int)
 rw [e1,e2]
 exact⟨p.1*p.1*x - p.2*p.2*y+p.1*p.2*z - p.1*w2+p.2*w1,by grind⟩
def lead (n:Nat)(m:Mt)(s:Nat×Nat):Nat:=(ac0 n (syms n) (mv n m s)).getD 0
def leads (n:Nat)(m:Mt):List Nat:=(syms n).map (lead n m)
theorem aO5 {n:Nat}(hn:1≤n)(h48:n≤48){m:Mt}(hd:gcd m.det n=1){s:Nat×Nat}(hs:s∈syms n):∃ s',(syms n)[lead n m s]?=some s'∧s'∈orb n (mv n m s):=by
 obtain⟨j,hj⟩:=at8 hn h48 (aD1 hn m s) (ao0 hn hd (ao1 hs))
 have e:lead n m s=j:=by
  unfold lead
  rw [hj]
  rfl
 unfold ac0 at hj
 obtain⟨lt,hc,_⟩:=findIdx?_eq_some_iff_getElem.mp hj
 refine⟨(syms n)[j],by rw [e];exact getElem?_eq_getElem lt,?_⟩
 exact ak7 hn h48 (al4 (getElem_mem lt)) (contains_iff_mem.mp hc)
theorem aX1 {n:Nat}{m:Mt}{i:Nat}{s:Nat×Nat}(hs:(syms n)[i]?=some s):(leads n m).getD i 0=lead n m s:=by
 unfold leads
 rw [getD_eq_getElem?_getD,getElem?_map,hs]
 rfl
theorem aG1 {n:Nat}(hn:1≤n)(h48:n≤48){m:Mt}(hd:gcd m.det n=1){i:Nat}{s:Nat×Nat}(hs:(syms n)[i]?=some s):∀ j,∃ s',(syms n)[itr (fun i=>(leads n m).getD i 0) j i]?=some s'∧s'∈orb n (mv n (pwM m j) s)
 | 0=>⟨s,hs,by
  show s∈orb n (mv n ⟨1,0,0,1⟩ s)
  have hR:=al4 (mem_of_getElem? hs)
  rw [bT6 hn hR]
  exact aI3 hn hR⟩
 | j+1=>by
  obtain⟨s',h1,h2⟩:=aG1 hn h48 hd hs j
  obtain⟨s2,h3,h4⟩:=aO5 hn h48 hd (mem_of_getElem? h1)
  refine⟨s2,?_,?_⟩
  ·show (syms n)[(leads n m).getD (itr _ j i) 0]?=_
   rw [aX1 h1]
   exact h3
  ·have:=bq0 hn m h2
   rw [ca7 hn] at this
   exact ah5 h48 this h4
theorem ad7 (n:Nat)(m:Mt):(leads n m).length=(syms n).length:=length_map _
theorem aq9 {n k:Nat}(hn:1≤n)(h48:n≤48){m:Mt}(hd:gcd m.det n=1)(k1:1≤k)(hk:gcd (pwM m k).det n=1)(hb:(n:Int)∣(pwM m k).b)(hc:(n:Int)∣(pwM m k).c)(ha:(n:Int)∣(pwM m k).d - (pwM m k).a):Cyc (fun i=>(leads n m).getD i 0) (leads n m).length k where
 pos:=k1
 lt:=fun i hi=>by
  rw [ad7] at hi ⊢
  obtain⟨s',h1,_⟩:=aG1 hn h48 hd (getElem?_eq_getElem hi) 1
  exact (List.getElem?_eq_some_iff.mp h1).1
 cy:=fun i hi=>by
  rw [ad7] at hi
  have hs:=getElem?_eq_getElem hi
  obtain⟨s',h1,h2⟩:=aG1 hn h48 hd hs k
  have hm:=mem_of_getElem? hs
  have hm':=mem_of_getElem? h1
  have h3:=ah5 h48 (bJ9 hn hk hb hc ha (ao1 hm)) h2
  have e:=aq8 hn h48 (al4 hm) (ah6 hm) (ah6 hm') h3
  rw [← e] at h1
  exact az8 (az7 n (n*n)) h1 hs
theorem aI7 {n:Nat}(hn:1≤n)(h48:n≤48){m:Mt}(hd:gcd m.det n=1){i:Nat}{s:Nat×Nat}(hs:(syms n)[i]?=some s):lead n m s=i↔(n:Int)∣((s.1:Int)*m.a+s.2*m.c)*s.2 - ((s.1:Int)*m.b+s.2*m.d)*s.1:=by
 have g:=ao0 hn hd (ao1 (mem_of_getElem? hs))
 rw [← ar9 hn h48 g hs]
 obtain⟨j,hj⟩:=at8 hn h48 (aw8 hn _ _) g
 have e:lead n m s=j:=by
  unfold lead mv
  rw [hj]
  rfl
 rw [e,hj]
 exact⟨fun z=>congrArg some z,fun z=>Option.some.inj z⟩
theorem bx7 {π:Nat→Nat}{N k:Nat}(h:Cyc π N k):2*(gs π k N).length≤N+((List.range N).filter fun i=>π i == i).length:=by
 have split:∀ (p:Nat→Bool) (l:List Nat),(l.filter p).length+(l.filter fun x=>!p x).length=l.length:=fun p l=>by
  induction l with
  | nil=>rfl
  | cons x l ih =>
   by_cases c:p x=true
   ·rw [filter_cons_of_pos c,filter_cons_of_neg (by simp [c]),length_cons,length_cons]
    omega
   ·rw [filter_cons_of_neg c,filter_cons_of_pos (by simp [c]),length_cons,length_cons]
    omega
 have s1:=split (fun g=>rl π k g == 1) (gs π k N)
 have s2:=split (isF π k) (List.range N)
 rw [ones h] at s1
 rw [length_range] at s2
 have le:((gs π k N).filter fun g=>!(rl π k g == 1)).length≤((List.range N).filter fun x=>!isF π k x).length:=by
  refine be7 (fun g x=>x=π g) (Pairwise.filter _ (Pairwise.filter _ List.nodup_range)) (fun g hg=>?_) (fun g hg g' hg' x e1 e2=>?_)
  ·obtain⟨h1,h2⟩:=mem_filter.mp hg
   obtain⟨h3,h4⟩:=mem_filter.mp h1
   have lt:=mem_range.mp h3
   have ne:π g≠g:=fun z=>by
    rw [(bf2 h lt).mpr z] at h2
    cases h2
   have hm:π g∈rg π k g:=(ag8 h lt).mpr ⟨1,rfl⟩
   have ge:=aH9 h lt h4 hm
   refine⟨π g,mem_filter.mpr ⟨mem_range.mpr (h.lt g lt),?_⟩,rfl⟩
   cases e:isF π k (π g) with
   | false=>rfl
   | true=>exact absurd hm (isF_iff.mp e g (by omega))
  ·have lt:=mem_range.mp (mem_filter.mp (mem_filter.mp hg).1).1
   have lt':=mem_range.mp (mem_filter.mp (mem_filter.mp hg').1).1
   have e:π g=π g':=e1.symm.trans e2
   have f1:∀ x,itr π k x=itr π (k - 1) (π x):=fun x=>by
    have:k=(k - 1)+1:=by have:=h.pos;omega
    conv=>lhs;rw [this]
    rw [af1]
    rfl
   rw [← h.cy g lt,← h.cy g' lt',f1,f1,e]
 have e3:(gs π k N).length=((List.range N).filter (isF π k)).length:=rfl
 omega
noncomputable section
noncomputable def hvL:List (List Nat):=[[],[0],[1,0,2],[1,0,3,2],[1,0,4,5,2,3],[1,0,5,3,4,2],[1,0,6,9,10,7,2,5,11,3,4,8],[1,0,7,4,3,6,5,2],[1,0,8,10,6,11,4,9,2,7,3,5],[1,0,9,5,11,3,8,10,6,2,7,4],[1,0,10,15,4,14,16,12,8,11,2,9,7,17,5,3,6,13],[1,0,11,6,8,9,3,10,4,5,7,2],[1,0,12,15,19,22,8,23,6,20,16,13,2,11,17,3,10,14,21,4,9,18,5,7],[1,0,13,7,5,4,6,3,12,9,11,10,8,2],[1,0,14,21,10,16,12,19,22,17,4,20,6,15,2,13,5,9,23,7,11,3,8,18],[1,0,15,8,18,12,22,17,3,14,20,21,5,16,9,2,13,7,4,23,10,11,6,19],[1,0,16,20,6,22,4,19,10,23,8,18,14,21,12,17,2,15,11,7,3,13,5,9],[1,0,17,9,12,5,11,15,13,3,16,6,4,8,14,7,10,2],[1,0,18,27,31,25,8,33,6,24,34,22,14,32,12,21,28,19,2,17,30,15,11,35,9,5,29,3,16,26,20,4,13,7,10,23],[1,0,19,10,7,15,16,4,9,8,3,18,13,12,17,5,6,14,11,2],[1,0,20,25,14,30,33,22,18,29,12,35,10,27,4,24,31,26,8,21,2,19,7,32,15,3,17,13,34,9,5,16,23,6,28,11],[1,0,21,11,28,6,5,27,30,14,23,3,20,25,9,29,24,18,17,22,12,2,19,10,16,13,31,7,4,15,8,26],[1,0,22,33,8,25,14,26,4,32,18,29,34,27,6,24,20,30,10,31,16,23,2,21,15,5,7,13,35,11,17,19,9,3,12,28],[1,0,23,12,16,18,10,20,14,21,6,17,3,22,8,19,4,11,5,15,7,9,13,2],[1,0,24,30,35,41,20,43,18,46,34,28,14,47,12,27,37,44,8,42,6,39,31,25,2,23,38,15,11,32,3,22,29,40,10,4,45,16,26,21,33,5,19,7,17,36,9,13],[1,0,25,13,9,7,29,5,8,4,12,27,10,3,24,17,28,15,23,19,22,26,20,18,14,2,21,11,16,6],[1,0,26,39,18,36,6,35,12,28,24,29,8,34,40,32,20,37,4,38,16,31,22,30,10,27,2,25,9,11,23,21,15,41,13,7,5,17,19,3,14,33],[1,0,27,14,33,21,17,30,24,11,35,9,23,29,3,26,32,6,20,34,18,5,31,12,8,28,15,2,25,13,7,22,16,4,19,10],[1,0,28,35,10,42,12,33,45,37,4,34,6,40,16,47,14,38,24,30,26,41,43,31,18,36,20,29,2,27,19,23,44,7,11,3,25,9,17,46,13,21,5,22,32,8,39,15],[1,0,29,15,20,8,24,25,5,19,17,27,22,13,21,3,28,10,18,9,4,14,12,26,6,7,23,11,16,2],[1,0,30,45,55,34,61,66,18,36,53,69,20,64,24,39,70,37,8,65,12,67,50,40,14,62,56,42,46,31,2,29,51,59,5,54,9,17,71,15,23,48,27,57,47,3,28,44,41,58,22,32,68,10,35,4,26,43,49,33,63,6,25,60,13,19,7,21,52,11,16,38],[1,0,31,16,11,24,7,6,23,28,25,4,15,19,20,12,3,30,21,13,14,18,29,8,5,10,27,26,9,22,17,2],[1,0,32,40,22,44,20,35,10,46,8,34,30,43,28,37,18,47,16,36,6,42,4,39,26,45,24,38,14,41,12,33,2,31,11,7,19,15,27,23,3,29,21,13,5,25,9,17],[1,0,33,17,40,9,14,37,15,5,38,24,46,39,6,8,35,3,32,44,27,29,42,45,11,36,30,20,43,21,26,34,18,2,31,16,25,7,10,13,4,47,22,28,19,23,12,41],[1,0,34,51,12,47,28,40,30,45,16,48,4,50,14,49,10,44,52,42,26,37,22,36,32,38,20,41,6,46,8,39,24,35,2,33,23,21,25,31,7,27,19,53,17,9,29,5,11,15,13,3,18,43],[1,0,35,18,24,27,40,30,46,14,32,38,20,33,9,44,37,25,3,34,12,42,45,28,4,17,39,5,23,43,7,36,10,13,19,2,31,16,11,26,6,47,21,29,15,22,8,41],[1,0,36,45,53,62,8,64,6,60,68,40,14,70,12,39,50,59,20,71,18,57,49,43,26,69,24,42,65,56,32,63,30,54,46,37,2,35,52,15,11,66,27,23,47,3,34,44,61,22,16,55,38,4,33,51,29,21,67,17,9,48,5,31,7,28,41,58,10,25,13,19],[1,0,37,19,13,10,23,7,22,24,5,12,11,4,18,30,33,31,14,3,36,25,8,6,9,21,35,28,27,34,15,17,32,16,29,26,20,2],[1,0,38,57,26,43,16,51,28,55,22,46,32,40,36,52,6,42,30,49,58,47,10,54,34,44,4,56,8,50,18,41,12,45,24,53,14,39,2,37,13,31,17,5,25,33,11,21,59,19,29,7,15,35,23,9,27,3,20,48],[1,0,39,20,52,30,32,50,12,35,42,36,8,49,54,26,43,18,17,41,3,38,47,24,23,45,15,53,46,33,5,51,6,29,44,9,11,40,21,2,37,19,10,16,34,25,28,22,55,13,7,31,4,27,14,48],[1,0,40,50,14,55,61,47,18,68,32,70,30,52,4,49,63,67,8,46,22,71,20,45,34,65,58,42,38,54,12,69,10,64,24,44,56,51,28,41,2,39,27,60,35,23,19,7,57,15,3,37,13,59,29,5,36,48,26,53,43,6,66,16,33,25,62,17,9,31,11,21],[1,0,41,21,28,11,9,35,36,6,10,5,27,18,23,39,31,24,13,26,29,3,40,14,17,30,19,12,4,20,25,16,38,33,37,7,8,34,32,15,22,2],[1,0,42,63,72,58,26,82,89,45,76,55,20,83,30,93,71,49,38,84,12,54,94,52,32,79,6,57,74,91,14,81,24,51,67,61,85,78,18,48,64,43,2,41,77,9,88,66,39,17,69,33,23,95,21,11,75,27,5,70,86,35,65,3,40,62,47,34,87,50,59,16,4,92,28,56,10,44,37,25,90,31,7,13,19,36,60,68,46,8,80,29,73,15,22,53],[1,0,43,22,15,33,18,8,7,17,20,31,40,26,34,4,21,9,6,32,10,16,3,42,29,35,13,39,36,24,41,11,19,5,14,25,28,38,37,27,12,30,23,2],[1,0,44,55,30,66,36,48,26,58,40,51,69,59,28,46,42,65,32,53,38,62,24,71,22,60,8,47,14,57,4,54,18,63,67,49,6,64,20,52,10,56,16,45,2,43,15,27,7,35,68,11,39,19,31,3,41,29,9,13,25,70,21,33,37,17,5,34,50,12,61,23],[1,0,45,23,55,12,62,50,33,29,67,59,5,53,39,17,71,15,38,66,27,57,47,3,44,54,61,20,69,9,32,70,30,8,48,42,64,65,18,14,51,56,35,46,24,2,43,22,34,60,7,40,58,13,25,4,41,21,52,11,49,26,6,68,36,37,19,10,63,28,31,16],[1,0,46,69,16,52,10,54,14,55,6,51,26,56,8,53,4,68,28,49,30,66,36,59,70,57,12,50,18,67,20,48,44,63,40,60,22,65,42,61,34,62,38,64,32,47,2,45,31,19,27,11,5,15,7,9,13,25,71,23,35,39,41,33,43,37,21,29,17,3,24,58],[1,0,47,24,32,36,29,40,21,42,27,15,18,44,19,11,26,45,12,14,43,8,39,33,3,46,16,10,41,6,35,37,4,23,38,30,5,31,34,22,7,28,9,20,13,17,25,2],[1,0,48,60,76,82,20,85,42,89,64,58,14,91,12,57,72,94,32,84,6,80,74,55,26,95,24,54,65,79,44,86,18,92,69,52,38,90,36,51,68,87,8,83,30,77,61,49,2,47,70,39,35,67,27,23,73,15,11,62,3,46,59,81,10,28,88,53,40,34,50,93,16,56,22,78,4,45,75,29,21,63,5,43,19,7,31,41,66,9,37,13,33,71,17,25]]
noncomputable def thL:List (List Nat):=[[],[0],[1,2,0],[1,3,2,0],[1,4,5,2,0,3],[1,5,3,4,2,0],[1,6,9,10,7,2,0,11,3,5,8,4],[1,7,4,3,6,5,2,0],[1,8,10,6,11,4,9,2,0,3,7,5],[1,9,5,11,3,8,10,6,2,0,7,4],[1,10,15,4,14,16,12,8,11,2,0,7,17,5,3,9,13,6],[1,11,6,8,9,3,10,4,5,7,2,0],[1,12,15,19,22,8,23,6,20,16,13,2,0,17,3,11,21,10,4,14,5,9,18,7],[1,13,7,5,4,6,3,12,9,11,10,8,2,0],[1,14,21,10,16,12,19,22,17,4,20,6,15,2,0,5,9,23,7,11,3,13,18,8],[1,15,8,18,12,22,17,3,14,20,21,5,16,9,2,0,4,23,7,10,13,19,11,6],[1,16,20,6,22,4,19,10,23,8,18,14,21,12,17,2,0,11,7,3,15,13,5,9],[1,17,9,12,5,11,15,13,3,16,6,4,8,14,7,10,2,0],[1,18,27,31,25,8,33,6,24,34,22,14,32,12,21,28,19,2,0,30,15,11,35,9,5,29,3,17,20,4,16,26,13,7,23,10],[1,19,10,7,15,16,4,9,8,3,18,13,12,17,5,6,14,11,2,0],[1,20,25,14,30,33,22,18,29,12,35,10,27,4,24,31,26,8,21,2,0,7,32,15,3,19,34,9,5,17,13,23,6,28,16,11],[1,21,11,28,6,5,27,30,14,23,3,20,25,9,29,24,18,17,22,12,2,0,16,13,31,19,7,4,10,8,26,15],[1,22,33,8,25,14,26,4,32,18,29,34,27,6,24,20,30,10,31,16,23,2,0,15,5,7,13,35,11,17,19,9,3,21,28,12],[1,23,12,16,18,10,20,14,21,6,17,3,22,8,19,4,11,5,15,7,9,13,2,0],[1,24,30,35,41,20,43,18,46,34,28,14,47,12,27,37,44,8,42,6,39,31,25,2,0,38,15,11,32,3,23,40,10,4,45,29,16,26,22,5,21,33,7,19,36,9,17,13],[1,25,13,9,7,29,5,8,4,12,27,10,3,24,17,28,15,23,19,22,26,20,18,14,2,0,21,11,16,6],[1,26,39,18,36,6,35,12,28,24,29,8,34,40,32,20,37,4,38,16,31,22,30,10,27,2,0,9,11,23,21,15,41,13,7,5,17,19,3,25,33,14],[1,27,14,33,21,17,30,24,11,35,9,23,29,3,26,32,6,20,34,18,5,31,12,8,28,15,2,0,7,22,16,4,25,13,19,10],[1,28,35,10,42,12,33,45,37,4,34,6,40,16,47,14,38,24,30,26,41,43,31,18,36,20,29,2,0,19,23,44,7,11,3,27,17,46,13,21,5,25,9,39,22,32,8,15],[1,29,15,20,8,24,25,5,19,17,27,22,13,21,3,28,10,18,9,4,14,12,26,6,7,23,11,16,2,0],[1,30,45,55,34,61,66,18,36,53,69,20,64,24,39,70,37,8,65,12,67,50,40,14,62,56,42,46,31,2,0,51,59,5,54,9,17,71,15,23,48,27,57,47,3,29,41,58,22,32,68,28,10,35,4,44,63,26,43,49,6,33,13,25,19,7,60,11,21,52,38,16],[1,31,16,11,24,7,6,23,28,25,4,15,19,20,12,3,30,21,13,14,18,29,8,5,10,27,26,9,22,17,2,0],[1,32,40,22,44,20,35,10,46,8,34,30,43,28,37,18,47,16,36,6,42,4,39,26,45,24,38,14,41,12,33,2,0,11,7,19,15,27,23,3,31,13,5,29,21,25,9,17],[1,33,17,40,9,14,37,15,5,38,24,46,39,6,8,35,3,32,44,27,29,42,45,11,36,30,20,43,21,26,34,18,2,0,25,7,10,13,4,47,16,22,28,19,31,41,23,12],[1,34,51,12,47,28,40,30,45,16,48,4,50,14,49,10,44,52,42,26,37,22,36,32,38,20,41,6,46,8,39,24,35,2,0,23,21,25,31,7,27,19,53,17,9,29,5,11,15,13,3,33,43,18],[1,35,18,24,27,40,30,46,14,32,38,20,33,9,44,37,25,3,34,12,42,45,28,4,17,39,5,23,43,7,36,10,13,19,2,0,6,47,31,16,26,21,11,22,8,41,29,15],[1,36,45,53,62,8,64,6,60,68,40,14,70,12,39,50,59,20,71,18,57,49,43,26,69,24,42,65,56,32,63,30,54,46,37,2,0,52,15,11,66,27,23,47,3,35,61,22,16,55,38,4,34,44,29,21,67,17,9,48,5,33,51,31,7,41,10,28,58,25,13,19],[1,37,19,13,10,23,7,22,24,5,12,11,4,18,30,33,31,14,3,36,25,8,6,9,21,35,28,27,34,15,17,32,16,29,26,20,2,0],[1,38,57,26,43,16,51,28,55,22,46,32,40,36,52,6,42,30,49,58,47,10,54,34,44,4,56,8,50,18,41,12,45,24,53,14,39,2,0,13,31,17,5,25,33,11,21,59,19,29,7,15,35,23,9,27,3,37,48,20],[1,39,20,52,30,32,50,12,35,42,36,8,49,54,26,43,18,17,41,3,38,47,24,23,45,15,53,46,33,5,51,6,29,44,9,11,40,21,2,0,10,16,34,25,28,22,55,37,13,7,31,4,19,14,48,27],[1,40,50,14,55,61,47,18,68,32,70,30,52,4,49,63,67,8,46,22,71,20,45,34,65,58,42,38,54,12,69,10,64,24,44,56,51,28,41,2,0,27,60,35,23,19,7,57,15,3,39,59,29,5,37,13,43,6,66,36,26,53,16,48,9,33,25,62,17,11,31,21],[1,41,21,28,11,9,35,36,6,10,5,27,18,23,39,31,24,13,26,29,3,40,14,17,30,19,12,4,20,25,16,38,33,37,7,8,34,32,15,22,2,0],[1,42,63,72,58,26,82,89,45,76,55,20,83,30,93,71,49,38,84,12,54,94,52,32,79,6,57,74,91,14,81,24,51,67,61,85,78,18,48,64,43,2,0,77,9,88,66,39,17,69,33,23,95,21,11,75,27,5,70,86,35,65,3,41,47,34,87,50,59,16,4,92,62,28,56,10,44,40,90,31,7,13,25,19,37,60,68,46,8,80,36,73,15,29,53,22],[1,43,22,15,33,18,8,7,17,20,31,40,26,34,4,21,9,6,32,10,16,3,42,29,35,13,39,36,24,41,11,19,5,14,25,28,38,37,27,12,30,23,2,0],[1,44,55,30,66,36,48,26,58,40,51,69,59,28,46,42,65,32,53,38,62,24,71,22,60,8,47,14,57,4,54,18,63,67,49,6,64,20,52,10,56,16,45,2,0,15,27,7,35,68,11,39,19,31,3,43,9,13,25,70,21,33,37,17,5,41,29,61,34,50,12,23],[1,45,23,55,12,62,50,33,29,67,59,5,53,39,17,71,15,38,66,27,57,47,3,44,54,61,20,69,9,32,70,30,8,48,42,64,65,18,14,51,56,35,46,24,2,0,34,60,7,40,58,13,25,4,43,22,49,26,6,68,21,52,11,36,41,63,37,28,10,19,31,16],[1,46,69,16,52,10,54,14,55,6,51,26,56,8,53,4,68,28,49,30,66,36,59,70,57,12,50,18,67,20,48,44,63,40,60,22,65,42,61,34,62,38,64,32,47,2,0,31,19,27,11,5,15,7,9,13,25,71,23,35,39,41,33,43,37,21,29,17,3,45,58,24],[1,47,24,32,36,29,40,21,42,27,15,18,44,19,11,26,45,12,14,43,8,39,33,3,46,16,10,41,6,35,37,4,23,38,30,5,31,34,22,7,28,9,20,13,17,25,2,0],[1,48,60,76,82,20,85,42,89,64,58,14,91,12,57,72,94,32,84,6,80,74,55,26,95,24,54,65,79,44,86,18,92,69,52,38,90,36,51,68,87,8,83,30,77,61,49,2,0,70,39,35,67,27,23,73,15,11,62,3,47,81,10,28,88,53,40,34,50,93,46,16,56,22,78,4,59,29,21,63,5,45,75,7,31,19,43,66,9,41,37,13,17,33,71,25]]
noncomputable def foL:List (List Nat):=[[],[0],[0,2,1],[0,2,3,1],[0,2,3,4,1,5],[0,2,3,4,5,1],[0,2,3,4,5,6,1,8,9,7,11,10],[0,2,3,4,5,6,7,1],[0,2,3,4,5,6,7,8,1,10,9,11],[0,2,3,4,5,6,7,8,9,1,10,11],[0,2,3,4,5,6,7,8,9,10,1,12,13,14,15,11,17,16],[0,2,3,4,5,6,7,8,9,10,11,1],[0,2,3,4,5,6,7,8,9,10,11,12,1,14,15,13,18,16,19,17,22,20,21,23],[0,2,3,4,5,6,7,8,9,10,11,12,13,1],[0,2,3,4,5,6,7,8,9,10,11,12,13,14,1,16,17,18,19,20,21,15,23,22],[0,2,3,4,5,6,7,8,9,10,11,12,13,14,15,1,18,19,17,20,16,23,21,22],[0,2,3,4,5,6,7,8,9,10,11,12,13,14,15,16,1,18,19,20,17,21,22,23],[0,2,3,4,5,6,7,8,9,10,11,12,13,14,15,16,17,1],[0,2,3,4,5,6,7,8,9,10,11,12,13,14,15,16,17,18,1,20,21,22,23,24,25,26,27,19,30,31,28,29,32,33,35,34],[0,2,3,4,5,6,7,8,9,10,11,12,13,14,15,16,17,18,19,1],[0,2,3,4,5,6,7,8,9,10,11,12,13,14,15,16,17,18,19,20,1,22,23,24,25,21,28,29,30,26,27,32,33,34,31,35],[0,2,3,4,5,6,7,8,9,10,11,12,13,14,15,16,17,18,19,20,21,1,24,25,26,22,27,28,23,30,31,29],[0,2,3,4,5,6,7,8,9,10,11,12,13,14,15,16,17,18,19,20,21,22,1,24,25,26,27,28,29,30,31,32,33,23,35,34],[0,2,3,4,5,6,7,8,9,10,11,12,13,14,15,16,17,18,19,20,21,22,23,1],[0,2,3,4,5,6,7,8,9,10,11,12,13,14,15,16,17,18,19,20,21,22,23,24,1,26,27,28,29,30,25,33,34,35,36,32,37,38,31,41,39,40,43,42,45,46,44,47],[0,2,3,4,5,6,7,8,9,10,11,12,13,14,15,16,17,18,19,20,21,22,23,24,25,1,26,27,28,29],[0,2,3,4,5,6,7,8,9,10,11,12,13,14,15,16,17,18,19,20,21,22,23,24,25,26,1,28,29,30,31,32,33,34,35,36,37,38,39,27,41,40],[0,2,3,4,5,6,7,8,9,10,11,12,13,14,15,16,17,18,19,20,21,22,23,24,25,26,27,1,30,31,32,33,28,29,34,35],[0,2,3,4,5,6,7,8,9,10,11,12,13,14,15,16,17,18,19,20,21,22,23,24,25,26,27,28,1,30,31,32,33,34,35,29,38,39,40,41,42,36,37,46,43,44,45,47],[0,2,3,4,5,6,7,8,9,10,11,12,13,14,15,16,17,18,19,20,21,22,23,24,25,26,27,28,29,1],[0,2,3,4,5,6,7,8,9,10,11,12,13,14,15,16,17,18,19,20,21,22,23,24,25,26,27,28,29,30,1,32,33,34,35,36,37,38,39,40,41,42,43,44,45,31,48,49,50,51,52,46,53,54,55,47,60,56,57,58,61,59,64,62,65,66,63,69,67,68,71,70],[0,2,3,4,5,6,7,8,9,10,11,12,13,14,15,16,17,18,19,20,21,22,23,24,25,26,27,28,29,30,31,1],[0,2,3,4,5,6,7,8,9,10,11,12,13,14,15,16,17,18,19,20,21,22,23,24,25,26,27,28,29,30,31,32,1,34,35,36,37,38,39,40,33,43,44,41,42,45,46,47],[0,2,3,4,5,6,7,8,9,10,11,12,13,14,15,16,17,18,19,20,21,22,23,24,25,26,27,28,29,30,31,32,33,1,36,37,38,39,40,41,35,42,43,44,34,47,45,46],[0,2,3,4,5,6,7,8,9,10,11,12,13,14,15,16,17,18,19,20,21,22,23,24,25,26,27,28,29,30,31,32,33,34,1,36,37,38,39,40,41,42,43,44,45,46,47,48,49,50,51,35,53,52],[0,2,3,4,5,6,7,8,9,10,11,12,13,14,15,16,17,18,19,20,21,22,23,24,25,26,27,28,29,30,31,32,33,34,35,1,40,41,36,37,39,42,38,45,46,47,43,44],[0,2,3,4,5,6,7,8,9,10,11,12,13,14,15,16,17,18,19,20,21,22,23,24,25,26,27,28,29,30,31,32,33,34,35,36,1,38,39,40,41,42,43,44,45,37,48,49,50,51,52,53,46,47,56,57,58,59,60,61,62,54,55,63,64,66,68,65,67,69,70,71],[0,2,3,4,5,6,7,8,9,10,11,12,13,14,15,16,17,18,19,20,21,22,23,24,25,26,27,28,29,30,31,32,33,34,35,36,37,1],[0,2,3,4,5,6,7,8,9,10,11,12,13,14,15,16,17,18,19,20,21,22,23,24,25,26,27,28,29,30,31,32,33,34,35,36,37,38,1,40,41,42,43,44,45,46,47,48,49,50,51,52,53,54,55,56,57,39,59,58],[0,2,3,4,5,6,7,8,9,10,11,12,13,14,15,16,17,18,19,20,21,22,23,24,25,26,27,28,29,30,31,32,33,34,35,36,37,38,39,1,42,43,44,45,46,47,48,40,49,50,51,52,41,54,55,53],[0,2,3,4,5,6,7,8,9,10,11,12,13,14,15,16,17,18,19,20,21,22,23,24,25,26,27,28,29,30,31,32,33,34,35,36,37,38,39,40,1,42,43,44,45,46,47,48,49,50,41,53,54,55,51,52,60,61,62,56,58,59,63,57,68,64,65,66,67,70,69,71],[0,2,3,4,5,6,7,8,9,10,11,12,13,14,15,16,17,18,19,20,21,22,23,24,25,26,27,28,29,30,31,32,33,34,35,36,37,38,39,40,41,1],[0,2,3,4,5,6,7,8,9,10,11,12,13,14,15,16,17,18,19,20,21,22,23,24,25,26,27,28,29,30,31,32,33,34,35,36,37,38,39,40,41,42,1,44,45,46,47,48,49,50,51,52,53,54,55,56,57,58,59,60,61,62,63,43,66,67,68,69,70,71,72,73,65,74,75,76,77,64,80,81,82,83,79,84,78,86,87,88,89,90,85,92,93,91,95,94],[0,2,3,4,5,6,7,8,9,10,11,12,13,14,15,16,17,18,19,20,21,22,23,24,25,26,27,28,29,30,31,32,33,34,35,36,37,38,39,40,41,42,43,1],[0,2,3,4,5,6,7,8,9,10,11,12,13,14,15,16,17,18,19,20,21,22,23,24,25,26,27,28,29,30,31,32,33,34,35,36,37,38,39,40,41,42,43,44,1,46,47,48,49,50,51,52,53,54,55,45,58,59,60,61,62,63,64,65,66,56,57,70,67,68,69,71],[0,2,3,4,5,6,7,8,9,10,11,12,13,14,15,16,17,18,19,20,21,22,23,24,25,26,27,28,29,30,31,32,33,34,35,36,37,38,39,40,41,42,43,44,45,1,48,49,50,51,52,53,54,55,46,47,60,61,62,63,57,58,59,64,56,68,65,69,67,66,70,71],[0,2,3,4,5,6,7,8,9,10,11,12,13,14,15,16,17,18,19,20,21,22,23,24,25,26,27,28,29,30,31,32,33,34,35,36,37,38,39,40,41,42,43,44,45,46,1,48,49,50,51,52,53,54,55,56,57,58,59,60,61,62,63,64,65,66,67,68,69,47,71,70],[0,2,3,4,5,6,7,8,9,10,11,12,13,14,15,16,17,18,19,20,21,22,23,24,25,26,27,28,29,30,31,32,33,34,35,36,37,38,39,40,41,42,43,44,45,46,47,1],[0,2,3,4,5,6,7,8,9,10,11,12,13,14,15,16,17,18,19,20,21,22,23,24,25,26,27,28,29,30,31,32,33,34,35,36,37,38,39,40,41,42,43,44,45,46,47,48,1,50,51,52,53,54,55,56,57,58,59,60,49,63,64,65,66,67,68,69,70,71,61,72,73,74,75,76,62,79,80,81,82,77,78,85,86,84,83,88,89,87,90,91,94,92,93,95]]
noncomputable def cgL:List (List Nat):=[[],[0],[0,1,1],[0,1,1,1],[0,1,1,1,1,2],[0,1,1,1,1,1],[0,1,1,1,1,1,1,2,2,2,3,3],[0,1,1,1,1,1,1,1],[0,1,1,1,1,1,1,1,1,2,2,3],[0,1,1,1,1,1,1,1,1,1,2,3],[0,1,1,1,1,1,1,1,1,1,1,2,2,2,2,2,3,3],[0,1,1,1,1,1,1,1,1,1,1,1],[0,1,1,1,1,1,1,1,1,1,1,1,1,2,2,2,3,3,3,3,4,4,4,5],[0,1,1,1,1,1,1,1,1,1,1,1,1,1],[0,1,1,1,1,1,1,1,1,1,1,1,1,1,1,2,2,2,2,2,2,2,3,3],[0,1,1,1,1,1,1,1,1,1,1,1,1,1,1,1,2,2,2,2,2,3,3,3],[0,1,1,1,1,1,1,1,1,1,1,1,1,1,1,1,1,2,2,2,2,3,4,5],[0,1,1,1,1,1,1,1,1,1,1,1,1,1,1,1,1,1],[0,1,1,1,1,1,1,1,1,1,1,1,1,1,1,1,1,1,1,2,2,2,2,2,2,2,2,2,3,4,3,4,5,6,7,7],[0,1,1,1,1,1,1,1,1,1,1,1,1,1,1,1,1,1,1,1],[0,1,1,1,1,1,1,1,1,1,1,1,1,1,1,1,1,1,1,1,1,2,2,2,2,2,3,3,3,3,3,4,4,4,4,5],[0,1,1,1,1,1,1,1,1,1,1,1,1,1,1,1,1,1,1,1,1,1,2,2,2,2,2,2,2,3,3,3],[0,1,1,1,1,1,1,1,1,1,1,1,1,1,1,1,1,1,1,1,1,1,1,2,2,2,2,2,2,2,2,2,2,2,3,3],[0,1,1,1,1,1,1,1,1,1,1,1,1,1,1,1,1,1,1,1,1,1,1,1],[0,1,1,1,1,1,1,1,1,1,1,1,1,1,1,1,1,1,1,1,1,1,1,1,1,2,2,2,2,2,2,3,3,3,3,3,3,3,3,4,4,4,5,5,6,6,6,7],[0,1,1,1,1,1,1,1,1,1,1,1,1,1,1,1,1,1,1,1,1,1,1,1,1,1,2,3,4,5],[0,1,1,1,1,1,1,1,1,1,1,1,1,1,1,1,1,1,1,1,1,1,1,1,1,1,1,2,2,2,2,2,2,2,2,2,2,2,2,2,3,3],[0,1,1,1,1,1,1,1,1,1,1,1,1,1,1,1,1,1,1,1,1,1,1,1,1,1,1,1,2,3,2,3,2,3,4,5],[0,1,1,1,1,1,1,1,1,1,1,1,1,1,1,1,1,1,1,1,1,1,1,1,1,1,1,1,1,2,2,2,2,2,2,2,3,3,3,3,3,3,3,4,4,4,4,5],[0,1,1,1,1,1,1,1,1,1,1,1,1,1,1,1,1,1,1,1,1,1,1,1,1,1,1,1,1,1],[0,1,1,1,1,1,1,1,1,1,1,1,1,1,1,1,1,1,1,1,1,1,1,1,1,1,1,1,1,1,1,2,2,2,2,2,2,2,2,2,2,2,2,2,2,2,3,3,3,3,3,3,3,3,3,3,4,4,4,4,4,4,5,5,5,5,5,6,6,6,7,7],[0,1,1,1,1,1,1,1,1,1,1,1,1,1,1,1,1,1,1,1,1,1,1,1,1,1,1,1,1,1,1,1],[0,1,1,1,1,1,1,1,1,1,1,1,1,1,1,1,1,1,1,1,1,1,1,1,1,1,1,1,1,1,1,1,1,2,2,2,2,2,2,2,2,3,4,3,4,5,6,7],[0,1,1,1,1,1,1,1,1,1,1,1,1,1,1,1,1,1,1,1,1,1,1,1,1,1,1,1,1,1,1,1,1,1,2,2,2,2,2,2,2,2,2,2,2,3,3,3],[0,1,1,1,1,1,1,1,1,1,1,1,1,1,1,1,1,1,1,1,1,1,1,1,1,1,1,1,1,1,1,1,1,1,1,2,2,2,2,2,2,2,2,2,2,2,2,2,2,2,2,2,3,3],[0,1,1,1,1,1,1,1,1,1,1,1,1,1,1,1,1,1,1,1,1,1,1,1,1,1,1,1,1,1,1,1,1,1,1,1,2,2,2,2,2,2,2,3,3,3,3,3],[0,1,1,1,1,1,1,1,1,1,1,1,1,1,1,1,1,1,1,1,1,1,1,1,1,1,1,1,1,1,1,1,1,1,1,1,1,2,2,2,2,2,2,2,2,2,3,4,3,4,3,4,3,4,5,5,5,5,5,5,5,5,5,6,7,8,8,8,8,9,10,11],[0,1,1,1,1,1,1,1,1,1,1,1,1,1,1,1,1,1,1,1,1,1,1,1,1,1,1,1,1,1,1,1,1,1,1,1,1,1],[0,1,1,1,1,1,1,1,1,1,1,1,1,1,1,1,1,1,1,1,1,1,1,1,1,1,1,1,1,1,1,1,1,1,1,1,1,1,1,2,2,2,2,2,2,2,2,2,2,2,2,2,2,2,2,2,2,2,3,3],[0,1,1,1,1,1,1,1,1,1,1,1,1,1,1,1,1,1,1,1,1,1,1,1,1,1,1,1,1,1,1,1,1,1,1,1,1,1,1,1,2,2,2,2,2,2,2,2,2,2,2,2,2,3,3,3],[0,1,1,1,1,1,1,1,1,1,1,1,1,1,1,1,1,1,1,1,1,1,1,1,1,1,1,1,1,1,1,1,1,1,1,1,1,1,1,1,1,2,2,2,2,2,2,2,2,2,2,3,3,3,3,3,4,4,4,4,4,4,4,4,5,5,5,5,5,6,6,7],[0,1,1,1,1,1,1,1,1,1,1,1,1,1,1,1,1,1,1,1,1,1,1,1,1,1,1,1,1,1,1,1,1,1,1,1,1,1,1,1,1,1],[0,1,1,1,1,1,1,1,1,1,1,1,1,1,1,1,1,1,1,1,1,1,1,1,1,1,1,1,1,1,1,1,1,1,1,1,1,1,1,1,1,1,1,2,2,2,2,2,2,2,2,2,2,2,2,2,2,2,2,2,2,2,2,2,3,3,3,3,3,3,3,3,3,3,3,3,3,3,4,4,4,4,4,4,4,5,5,5,5,5,5,6,6,6,7,7],[0,1,1,1,1,1,1,1,1,1,1,1,1,1,1,1,1,1,1,1,1,1,1,1,1,1,1,1,1,1,1,1,1,1,1,1,1,1,1,1,1,1,1,1],[0,1,1,1,1,1,1,1,1,1,1,1,1,1,1,1,1,1,1,1,1,1,1,1,1,1,1,1,1,1,1,1,1,1,1,1,1,1,1,1,1,1,1,1,1,2,2,2,2,2,2,2,2,2,2,2,3,3,3,3,3,3,3,3,3,3,3,4,4,4,4,5],[0,1,1,1,1,1,1,1,1,1,1,1,1,1,1,1,1,1,1,1,1,1,1,1,1,1,1,1,1,1,1,1,1,1,1,1,1,1,1,1,1,1,1,1,1,1,2,3,2,3,2,3,2,3,2,3,4,4,4,4,4,4,4,4,4,5,5,5,5,5,6,7],[0,1,1,1,1,1,1,1,1,1,1,1,1,1,1,1,1,1,1,1,1,1,1,1,1,1,1,1,1,1,1,1,1,1,1,1,1,1,1,1,1,1,1,1,1,1,1,2,2,2,2,2,2,2,2,2,2,2,2,2,2,2,2,2,2,2,2,2,2,2,3,3],[0,1,1,1,1,1,1,1,1,1,1,1,1,1,1,1,1,1,1,1,1,1,1,1,1,1,1,1,1,1,1,1,1,1,1,1,1,1,1,1,1,1,1,1,1,1,1,1],[0,1,1,1,1,1,1,1,1,1,1,1,1,1,1,1,1,1,1,1,1,1,1,1,1,1,1,1,1,1,1,1,1,1,1,1,1,1,1,1,1,1,1,1,1,1,1,1,1,2,2,2,2,2,2,2,2,2,2,2,2,3,3,3,3,3,3,3,3,3,3,3,3,3,3,3,3,4,5,4,5,4,5,6,6,6,6,7,7,7,8,9,10,10,10,11]]
noncomputable def cdL:List (List Nat):=[[],[0],[0,0,1],[0,0,2,1],[0,0,3,2,1,0],[0,0,4,3,2,1],[0,0,5,4,3,2,1,0,2,1,0,1],[0,0,6,5,4,3,2,1],[0,0,7,6,5,4,3,2,1,0,1,0],[0,0,8,7,6,5,4,3,2,1,0,0],[0,0,9,8,7,6,5,4,3,2,1,0,4,3,2,1,0,1],[0,0,10,9,8,7,6,5,4,3,2,1],[0,0,11,10,9,8,7,6,5,4,3,2,1,0,2,1,0,1,3,2,0,1,2,0],[0,0,12,11,10,9,8,7,6,5,4,3,2,1],[0,0,13,12,11,10,9,8,7,6,5,4,3,2,1,0,6,5,4,3,2,1,0,1],[0,0,14,13,12,11,10,9,8,7,6,5,4,3,2,1,0,3,4,2,1,0,1,2],[0,0,15,14,13,12,11,10,9,8,7,6,5,4,3,2,1,0,3,2,1,0,0,0],[0,0,16,15,14,13,12,11,10,9,8,7,6,5,4,3,2,1],[0,0,17,16,15,14,13,12,11,10,9,8,7,6,5,4,3,2,1,0,8,7,6,5,4,3,2,1,0,0,1,1,0,0,0,1],[0,0,18,17,16,15,14,13,12,11,10,9,8,7,6,5,4,3,2,1],[0,0,19,18,17,16,15,14,13,12,11,10,9,8,7,6,5,4,3,2,1,0,4,3,2,1,0,2,4,1,3,0,3,2,1,0],[0,0,20,19,18,17,16,15,14,13,12,11,10,9,8,7,6,5,4,3,2,1,0,2,6,1,5,4,3,0,2,1],[0,0,21,20,19,18,17,16,15,14,13,12,11,10,9,8,7,6,5,4,3,2,1,0,10,9,8,7,6,5,4,3,2,1,0,1],[0,0,22,21,20,19,18,17,16,15,14,13,12,11,10,9,8,7,6,5,4,3,2,1],[0,0,23,22,21,20,19,18,17,16,15,14,13,12,11,10,9,8,7,6,5,4,3,2,1,0,5,4,3,2,1,0,5,7,4,6,3,2,1,0,1,2,0,1,0,2,1,0],[0,0,24,23,22,21,20,19,18,17,16,15,14,13,12,11,10,9,8,7,6,5,4,3,2,1,0,0,0,0],[0,0,25,24,23,22,21,20,19,18,17,16,15,14,13,12,11,10,9,8,7,6,5,4,3,2,1,0,12,11,10,9,8,7,6,5,4,3,2,1,0,1],[0,0,26,25,24,23,22,21,20,19,18,17,16,15,14,13,12,11,10,9,8,7,6,5,4,3,2,1,0,0,2,2,1,1,0,0],[0,0,27,26,25,24,23,22,21,20,19,18,17,16,15,14,13,12,11,10,9,8,7,6,5,4,3,2,1,0,6,5,4,3,2,1,0,3,6,2,5,1,4,0,1,2,3,0],[0,0,28,27,26,25,24,23,22,21,20,19,18,17,16,15,14,13,12,11,10,9,8,7,6,5,4,3,2,1],[0,0,29,28,27,26,25,24,23,22,21,20,19,18,17,16,15,14,13,12,11,10,9,8,7,6,5,4,3,2,1,0,14,13,12,11,10,9,8,7,6,5,4,3,2,1,0,3,9,2,8,1,7,6,5,4,0,1,2,3,5,4,0,1,4,3,2,0,1,2,0,1],[0,0,30,29,28,27,26,25,24,23,22,21,20,19,18,17,16,15,14,13,12,11,10,9,8,7,6,5,4,3,2,1],[0,0,31,30,29,28,27,26,25,24,23,22,21,20,19,18,17,16,15,14,13,12,11,10,9,8,7,6,5,4,3,2,1,0,7,6,5,4,3,2,1,0,0,1,1,0,0,0],[0,0,32,31,30,29,28,27,26,25,24,23,22,21,20,19,18,17,16,15,14,13,12,11,10,9,8,7,6,5,4,3,2,1,0,7,10,6,9,5,8,4,3,2,1,0,1,2],[0,0,33,32,31,30,29,28,27,26,25,24,23,22,21,20,19,18,17,16,15,14,13,12,11,10,9,8,7,6,5,4,3,2,1,0,16,15,14,13,12,11,10,9,8,7,6,5,4,3,2,1,0,1],[0,0,34,33,32,31,30,29,28,27,26,25,24,23,22,21,20,19,18,17,16,15,14,13,12,11,10,9,8,7,6,5,4,3,2,1,0,4,1,5,6,3,2,0,2,4,1,3],[0,0,35,34,33,32,31,30,29,28,27,26,25,24,23,22,21,20,19,18,17,16,15,14,13,12,11,10,9,8,7,6,5,4,3,2,1,0,8,7,6,5,4,3,2,1,0,0,3,3,2,2,1,1,0,4,8,3,7,2,6,1,5,0,0,0,3,1,2,0,0,0],[0,0,36,35,34,33,32,31,30,29,28,27,26,25,24,23,22,21,20,19,18,17,16,15,14,13,12,11,10,9,8,7,6,5,4,3,2,1],[0,0,37,36,35,34,33,32,31,30,29,28,27,26,25,24,23,22,21,20,19,18,17,16,15,14,13,12,11,10,9,8,7,6,5,4,3,2,1,0,18,17,16,15,14,13,12,11,10,9,8,7,6,5,4,3,2,1,0,1],[0,0,38,37,36,35,34,33,32,31,30,29,28,27,26,25,24,23,22,21,20,19,18,17,16,15,14,13,12,11,10,9,8,7,6,5,4,3,2,1,0,4,12,3,11,2,10,1,9,8,7,6,5,0,2,1],[0,0,39,38,37,36,35,34,33,32,31,30,29,28,27,26,25,24,23,22,21,20,19,18,17,16,15,14,13,12,11,10,9,8,7,6,5,4,3,2,1,0,9,8,7,6,5,4,3,2,1,0,2,4,1,3,0,3,6,1,7,2,5,4,0,1,2,3,4,0,1,0],[0,0,40,39,38,37,36,35,34,33,32,31,30,29,28,27,26,25,24,23,22,21,20,19,18,17,16,15,14,13,12,11,10,9,8,7,6,5,4,3,2,1],[0,0,41,40,39,38,37,36,35,34,33,32,31,30,29,28,27,26,25,24,23,22,21,20,19,18,17,16,15,14,13,12,11,10,9,8,7,6,5,4,3,2,1,0,20,19,18,17,16,15,14,13,12,11,10,9,8,7,6,5,4,3,2,1,0,9,13,8,12,7,11,6,10,5,4,3,2,1,0,4,6,3,5,2,1,0,5,4,3,2,1,0,2,1,0,1],[0,0,42,41,40,39,38,37,36,35,34,33,32,31,30,29,28,27,26,25,24,23,22,21,20,19,18,17,16,15,14,13,12,11,10,9,8,7,6,5,4,3,2,1],[0,0,43,42,41,40,39,38,37,36,35,34,33,32,31,30,29,28,27,26,25,24,23,22,21,20,19,18,17,16,15,14,13,12,11,10,9,8,7,6,5,4,3,2,1,0,10,9,8,7,6,5,4,3,2,1,0,5,10,4,9,3,8,2,7,1,6,0,1,2,3,0],[0,0,44,43,42,41,40,39,38,37,36,35,34,33,32,31,30,29,28,27,26,25,24,23,22,21,20,19,18,17,16,15,14,13,12,11,10,9,8,7,6,5,4,3,2,1,0,0,4,4,3,3,2,2,1,1,0,7,5,3,8,6,4,2,1,0,1,3,4,2,0,0],[0,0,45,44,43,42,41,40,39,38,37,36,35,34,33,32,31,30,29,28,27,26,25,24,23,22,21,20,19,18,17,16,15,14,13,12,11,10,9,8,7,6,5,4,3,2,1,0,22,21,20,19,18,17,16,15,14,13,12,11,10,9,8,7,6,5,4,3,2,1,0,1],[0,0,46,45,44,43,42,41,40,39,38,37,36,35,34,33,32,31,30,29,28,27,26,25,24,23,22,21,20,19,18,17,16,15,14,13,12,11,10,9,8,7,6,5,4,3,2,1],[0,0,47,46,45,44,43,42,41,40,39,38,37,36,35,34,33,32,31,30,29,28,27,26,25,24,23,22,21,20,19,18,17,16,15,14,13,12,11,10,9,8,7,6,5,4,3,2,1,0,11,10,9,8,7,6,5,4,3,2,1,0,5,15,4,14,3,13,2,12,1,11,10,9,8,7,6,0,0,2,2,1,1,0,2,3,1,0,2,1,0,0,0,1,2,0]]
noncomputable def cfL:List (List Nat):=[[],[0],[0,1],[0,1],[0,1,5],[0,1],[0,1,7,10],[0,1],[0,1,9,11],[0,1,10,11],[0,1,11,16],[0,1],[0,1,13,16,20,23],[0,1],[0,1,15,22],[0,1,16,21],[0,1,17,21,22,23],[0,1],[0,1,19,28,29,32,33,34],[0,1],[0,1,21,26,31,35],[0,1,22,29],[0,1,23,34],[0,1],[0,1,25,31,39,42,44,47],[0,1,26,27,28,29],[0,1,27,40],[0,1,28,29,34,35],[0,1,29,36,43,47],[0,1],[0,1,31,46,56,62,67,70],[0,1],[0,1,33,41,42,45,46,47],[0,1,34,45],[0,1,35,52],[0,1,36,43],[0,1,37,46,47,54,63,64,65,69,70,71],[0,1],[0,1,39,58],[0,1,40,53],[0,1,41,51,56,64,69,71],[0,1],[0,1,43,64,78,85,91,94],[0,1],[0,1,45,56,67,71],[0,1,46,47,56,65,70,71],[0,1,47,70],[0,1],[0,1,49,61,77,78,83,87,90,91,92,95]]
noncomputable def tgL:List (List Nat):=[[],[0],[0,0,0],[0,0,1,0],[0,0,1,1,0,1],[0,0,1,1,1,0],[0,0,1,2,3,1,0,3,2,1,2,3],[0,0,1,2,1,3,1,0],[0,0,1,2,3,3,2,1,0,2,1,3],[0,0,1,2,2,1,3,3,1,0,3,2],[0,0,1,2,2,3,4,5,5,1,0,5,4,3,2,1,3,4],[0,0,1,2,3,2,1,3,2,3,1,0],[0,0,1,2,3,4,5,5,4,6,7,1,0,7,2,1,6,7,3,2,4,6,3,5],[0,0,1,2,3,2,2,1,4,4,5,4,1,0],[0,0,1,2,3,4,5,6,7,3,2,5,4,1,0,4,3,7,6,5,2,1,6,7],[0,0,1,2,3,4,5,2,1,6,7,4,3,6,1,0,3,5,2,7,6,7,4,5],[0,0,1,2,3,3,2,4,5,5,4,6,7,7,6,1,0,6,4,2,1,7,3,5],[0,0,1,2,3,3,4,5,2,1,4,3,2,5,5,4,1,0],[0,0,1,2,3,4,5,5,4,6,7,8,9,9,8,10,11,1,0,11,10,8,7,6,4,3,2,1,10,3,11,2,9,5,6,7],[0,0,1,2,3,4,3,2,5,2,1,6,7,6,4,3,4,6,1,0],[0,0,1,2,3,4,5,6,7,8,9,9,8,3,2,10,11,7,6,1,0,6,5,10,2,1,11,8,4,7,3,10,5,4,11,9],[0,0,1,2,3,4,3,5,6,7,2,1,8,7,6,9,10,11,10,8,1,0,10,7,9,8,5,3,2,6,5,9],[0,0,1,2,3,4,5,3,2,6,7,8,9,5,4,10,11,7,6,11,10,1,0,10,4,3,5,9,8,7,11,6,2,1,8,9],[0,0,1,2,3,4,5,6,7,5,4,2,1,7,6,3,2,4,3,6,5,7,1,0],[0,0,1,2,3,4,5,6,7,8,9,10,11,11,10,12,13,7,6,5,4,14,15,1,0,15,12,10,9,2,1,14,9,3,8,2,13,12,15,4,14,3,6,5,13,8,7,11],[0,0,1,2,3,4,4,3,3,2,5,5,2,1,6,7,7,6,8,8,9,9,8,6,1,0,9,5,7,4],[0,0,1,2,3,4,4,5,6,7,8,6,5,9,10,11,12,3,2,12,11,13,13,8,7,1,0,7,6,8,13,11,10,9,5,4,3,12,2,1,9,10],[0,0,1,2,3,4,5,6,7,8,8,7,9,2,1,10,5,4,11,11,4,3,9,7,6,10,1,0,6,9,5,3,10,2,11,8],[0,0,1,2,3,4,5,6,7,3,2,5,4,8,9,9,8,10,11,12,13,14,15,11,10,13,12,1,0,12,11,15,6,5,2,1,10,7,8,14,4,13,3,14,15,6,7,9],[0,0,1,2,3,4,5,4,3,6,7,8,9,9,2,1,7,6,6,3,2,9,8,5,4,5,8,7,1,0],[0,0,1,2,3,4,5,6,7,8,9,10,11,12,13,14,15,7,6,11,10,16,17,13,12,18,19,20,21,1,0,21,22,4,3,8,7,15,14,13,17,20,19,23,2,1,20,23,17,22,16,21,9,8,3,2,18,19,23,22,5,4,12,18,11,6,5,10,16,9,14,15],[0,0,1,2,3,4,5,4,6,7,3,2,8,9,8,2,1,10,9,8,9,10,6,4,3,7,11,7,6,10,1,0],[0,0,1,2,3,4,5,6,7,7,6,8,9,10,11,12,13,13,12,5,4,3,2,14,15,15,14,11,10,9,8,1,0,8,6,5,12,11,14,2,1,10,4,9,3,15,7,13],[0,0,1,2,3,4,5,6,4,3,7,8,9,5,4,6,2,1,10,11,12,13,14,8,7,15,12,11,13,12,15,10,1,0,15,6,7,5,3,9,2,14,13,11,10,14,8,9],[0,0,1,2,3,4,5,6,7,8,9,3,2,10,10,9,8,11,12,13,14,15,15,16,17,14,13,5,4,7,6,17,16,1,0,16,15,14,17,6,5,13,12,11,8,7,4,3,9,10,2,1,11,12],[0,0,1,2,3,4,5,6,7,8,9,10,11,8,7,12,13,2,1,11,10,14,15,3,2,13,4,3,15,6,5,9,8,11,1,0,5,12,9,13,4,14,10,15,7,14,6,12],[0,0,1,2,3,4,5,5,4,6,7,8,9,9,8,10,11,12,13,13,12,14,15,16,17,17,16,18,19,20,21,21,20,22,23,1,0,23,10,8,7,18,16,15,2,1,22,15,11,14,10,3,23,2,20,14,19,12,6,11,4,22,3,21,5,18,7,19,6,17,9,13],[0,0,1,2,3,4,5,5,6,4,3,7,3,2,8,9,10,8,2,1,11,6,5,4,6,11,12,13,12,9,8,10,10,9,12,11,1,0],[0,0,1,2,3,4,5,6,7,8,9,10,11,12,13,5,4,14,15,16,17,9,8,18,19,3,2,7,6,15,14,11,10,19,18,13,12,1,0,12,11,14,4,3,19,10,9,17,16,15,6,5,13,18,8,7,2,1,16,17],[0,0,1,2,3,4,5,6,7,8,9,7,6,10,11,12,13,14,13,2,1,15,16,17,16,12,11,18,19,4,3,5,4,19,8,7,9,15,1,0,9,13,8,12,19,16,18,15,10,6,5,3,2,11,10,18],[0,0,1,2,3,4,5,6,7,8,9,10,11,3,2,12,13,7,6,14,15,15,14,16,17,18,19,20,21,11,10,9,8,17,16,22,23,21,20,1,0,20,19,22,16,14,6,5,12,2,1,23,11,4,21,3,22,5,18,23,19,4,13,12,8,17,18,13,7,10,9,15],[0,0,1,2,3,4,5,6,5,4,4,3,7,8,9,10,11,8,7,12,2,1,9,8,11,12,7,3,2,12,11,10,13,13,6,5,6,13,10,9,1,0],[0,0,1,2,3,4,5,6,7,8,9,10,11,12,13,14,15,16,17,11,10,18,19,20,21,5,4,22,23,13,12,21,20,24,25,26,27,17,16,28,29,1,0,29,8,7,30,28,16,15,24,20,19,18,10,9,22,4,3,31,26,25,2,1,28,25,30,24,31,15,3,14,2,23,22,9,8,29,27,21,6,12,5,11,17,26,31,30,7,6,27,23,14,13,18,19],[0,0,1,2,3,4,5,6,5,7,8,9,10,11,3,2,7,5,4,8,7,2,1,12,13,11,10,14,13,12,9,8,4,3,11,13,14,15,14,10,9,12,1,0],[0,0,1,2,3,4,5,6,7,8,9,10,11,12,13,14,15,16,17,18,19,20,21,21,20,7,6,13,12,3,2,17,16,22,23,5,4,19,18,9,8,15,14,1,0,14,13,6,5,23,10,9,18,17,2,1,8,12,7,11,20,22,19,16,4,15,3,22,23,10,11,21],[0,0,1,2,3,4,5,6,7,8,9,4,3,10,11,12,12,11,13,14,15,16,2,1,17,18,15,14,8,7,19,19,7,6,20,21,22,13,11,10,23,21,20,17,1,0,20,16,6,23,5,10,18,3,17,2,23,15,5,9,16,18,4,22,21,22,13,8,9,14,19,12],[0,0,1,2,3,4,5,6,7,5,4,8,9,7,6,3,2,10,11,12,13,14,15,16,17,9,8,11,10,13,12,18,19,20,21,15,14,22,23,21,20,23,22,19,18,1,0,18,12,11,8,4,3,6,5,7,9,17,16,15,21,23,20,19,22,14,13,10,2,1,16,17],[0,0,1,2,3,4,5,6,7,8,9,10,11,12,10,9,13,11,10,12,7,6,14,2,1,13,9,8,5,4,15,3,2,14,15,4,3,15,14,6,5,8,7,12,11,13,1,0],[0,0,1,2,3,4,5,6,7,8,9,10,11,11,10,12,13,14,15,5,4,16,17,18,19,19,18,20,21,22,23,15,14,24,25,26,27,27,26,28,29,7,6,23,22,30,31,1,0,31,28,26,25,20,18,17,12,10,9,2,1,30,9,21,8,20,29,25,28,24,31,13,12,17,16,3,2,22,16,21,4,30,3,6,15,5,23,29,8,7,27,11,14,24,13,19]]
noncomputable def tdL:List (List Nat):=[[],[0],[0,2,1],[0,2,0,1],[0,2,0,1,1,2],[0,2,0,2,1,1],[0,2,0,0,0,1,1,2,1,2,2,1],[0,2,0,0,2,0,1,1],[0,2,0,0,0,1,2,1,1,1,2,2],[0,2,0,0,1,2,0,1,1,1,2,2],[0,2,0,0,2,0,0,0,2,1,1,1,2,1,1,2,2,1],[0,2,0,0,0,1,2,1,2,2,1,1],[0,2,0,0,0,0,0,1,2,0,0,1,1,2,1,2,2,1,1,2,1,1,2,2],[0,2,0,0,0,2,1,2,0,2,0,1,1,1],[0,2,0,0,0,0,0,0,0,1,2,1,2,1,1,1,2,2,1,2,1,2,2,1],[0,2,0,0,0,0,0,1,2,0,0,1,2,1,1,1,1,2,2,1,2,2,2,1],[0,2,0,0,0,1,2,0,0,1,2,0,0,1,2,1,1,1,1,1,2,2,2,2],[0,2,0,0,0,2,0,0,1,2,1,1,2,2,1,2,1,1],[0,2,0,0,0,0,0,1,2,0,0,0,0,1,2,0,0,1,1,2,1,1,2,1,1,2,1,2,2,1,1,2,2,2,2,1],[0,2,0,0,0,0,1,2,0,1,2,0,0,2,1,2,2,1,1,1],[0,2,0,0,0,0,0,0,0,0,0,1,2,1,2,0,0,1,2,1,1,1,2,1,1,2,2,1,1,2,2,2,1,2,1,2],[0,2,0,0,0,0,2,0,0,0,1,2,0,1,2,0,0,0,2,1,1,1,1,2,2,2,1,1,2,1,2,1],[0,2,0,0,0,0,0,1,2,0,0,0,0,1,2,0,0,1,2,1,2,1,1,1,1,2,2,2,1,2,2,1,1,2,2,1],[0,2,0,0,0,0,0,0,0,1,2,1,2,1,2,1,2,1,2,1,2,2,1,1],[0,2,0,0,0,0,0,0,0,0,0,0,0,1,2,0,0,1,2,1,2,0,0,1,1,2,1,1,2,1,2,2,1,1,2,2,1,2,1,1,1,2,1,2,2,1,2,2],[0,2,0,0,0,0,1,2,1,2,0,1,1,2,0,0,1,2,0,2,0,1,1,1,1,1,2,2,2,2],[0,2,0,0,0,0,2,0,0,0,0,1,2,0,0,0,0,1,2,1,2,0,2,1,2,1,1,1,2,2,1,1,2,1,1,1,2,2,1,2,2,1],[0,2,0,0,0,0,0,0,0,0,1,2,0,1,2,0,1,2,0,1,1,2,1,1,2,1,1,1,1,2,2,1,2,2,2,2],[0,2,0,0,0,0,0,0,0,1,2,1,2,0,0,1,2,0,0,0,0,0,0,1,2,1,2,1,1,1,2,2,1,2,1,2,1,2,1,1,1,2,2,2,1,2,1,2],[0,2,0,0,0,0,0,1,2,0,0,0,0,2,1,2,1,2,1,1,2,1,2,1,2,2,1,2,1,1],[0,2,0,0,0,0,0,0,0,0,0,0,0,0,0,0,0,1,2,1,2,0,0,1,2,0,0,0,0,1,1,2,0,1,2,1,2,2,1,2,2,1,2,0,1,2,2,2,1,1,2,1,1,2,1,2,2,1,1,2,1,2,1,1,2,1,2,1,1,2,2,1],[0,2,0,0,0,0,0,2,0,0,1,2,0,0,1,1,2,0,1,2,2,2,1,1,2,2,0,1,2,1,1,1],[0,2,0,0,0,0,0,0,0,1,2,0,0,0,0,0,0,1,2,1,2,1,2,0,0,1,2,1,2,1,2,1,1,1,1,2,1,2,1,1,2,1,1,2,2,2,2,2],[0,2,0,0,0,0,0,0,1,2,0,0,0,1,2,2,1,2,0,0,0,0,0,1,2,0,1,2,1,2,2,1,1,1,1,1,1,2,1,2,2,1,2,1,2,2,2,1],[0,2,0,0,0,0,0,0,0,0,0,1,2,0,2,1,2,0,0,0,0,0,2,0,0,1,2,1,2,1,2,1,2,1,1,1,1,2,2,1,2,1,2,1,1,2,1,2,2,1,1,2,2,1],[0,2,0,0,0,0,0,0,0,0,0,0,0,1,2,0,0,1,2,1,2,0,0,1,2,2,1,2,2,1,2,1,2,2,1,1,1,2,2,1,2,1,1,1,1,2,2,1],[0,2,0,0,0,0,0,1,2,0,0,0,0,1,2,0,0,0,0,1,2,0,0,0,0,1,2,0,0,0,0,1,2,0,0,1,1,2,1,1,2,1,1,2,1,2,2,1,1,2,2,1,1,2,1,1,2,1,1,2,1,1,2,2,2,2,1,1,2,2,2,2],[0,2,0,0,0,0,0,2,0,1,2,0,1,2,0,0,0,1,1,2,0,1,1,2,2,2,0,0,2,1,2,2,1,2,1,1,1,1],[0,2,0,0,0,0,0,0,0,0,0,0,0,0,0,1,2,0,0,0,0,1,2,0,0,1,2,1,2,1,2,1,2,1,2,1,2,1,1,1,2,1,1,2,2,1,2,2,1,2,1,2,2,1,1,2,1,2,2,1],[0,2,0,0,0,0,0,0,0,0,0,1,2,0,0,0,0,0,2,1,2,0,0,0,2,1,2,0,0,1,2,1,2,2,1,2,2,1,1,1,1,1,2,2,1,1,2,2,1,1,2,1,2,1,2,1],[0,2,0,0,0,0,0,0,0,0,0,0,0,1,2,0,0,1,2,0,0,1,2,0,0,0,0,0,0,1,2,1,2,1,2,0,0,1,2,1,1,1,2,1,1,1,1,2,1,1,2,2,2,1,2,2,2,1,2,1,1,2,1,2,1,2,1,2,2,1,2,2],[0,2,0,0,0,0,0,0,1,2,1,2,0,0,0,0,0,1,2,0,1,2,1,2,2,1,1,1,2,2,1,2,0,2,1,2,2,1,1,2,1,1],[0,2,0,0,0,0,0,0,0,0,0,0,0,0,0,0,0,0,0,1,2,0,0,0,0,1,2,0,0,1,2,1,2,0,0,0,0,1,2,0,0,1,1,2,1,2,0,1,1,2,1,1,2,1,1,2,1,1,2,0,1,2,1,2,2,1,2,2,1,1,1,2,2,1,2,1,2,1,2,2,1,1,2,2,2,2,2,1,1,2,1,2,1,2,2,1],[0,2,0,0,0,0,0,0,2,0,0,0,0,0,1,2,1,1,2,1,2,1,2,0,0,1,2,0,1,2,1,2,1,2,2,2,2,0,1,1,2,1,1,1],[0,2,0,0,0,0,0,0,0,0,0,0,0,0,0,0,0,0,0,0,0,0,0,1,2,1,2,1,2,1,2,1,2,0,0,1,2,1,2,1,2,1,2,1,1,1,2,1,2,2,1,2,1,2,1,2,1,1,2,2,1,1,2,1,1,2,2,2,1,2,1,2],[0,2,0,0,0,0,0,0,0,0,0,1,2,0,0,0,1,2,0,0,0,0,1,2,0,0,1,2,1,2,0,1,1,2,0,0,0,1,1,2,0,1,2,1,1,1,1,2,1,1,2,1,1,1,2,2,2,2,1,2,1,2,2,1,2,2,2,2,1,1,2,2],[0,2,0,0,0,0,0,0,0,1,2,0,0,1,2,1,2,0,0,0,0,0,0,0,0,1,2,1,2,1,2,0,0,0,0,1,2,0,0,1,2,1,2,1,2,1,1,1,1,2,1,1,2,1,2,2,2,2,1,2,2,2,1,2,1,1,2,1,1,2,2,1],[0,2,0,0,0,0,0,0,0,0,0,0,0,0,1,2,0,1,2,2,1,2,0,1,2,1,1,2,1,2,0,1,2,2,1,1,2,2,1,1,2,1,2,1,2,2,1,1],[0,2,0,0,0,0,0,0,0,0,0,0,0,1,2,0,0,0,0,1,2,0,0,0,0,1,2,0,0,0,0,1,2,0,0,0,0,1,2,0,0,1,2,1,2,0,0,1,1,2,1,1,2,1,1,2,1,1,2,1,2,2,1,1,2,2,1,1,2,2,1,1,2,1,2,1,2,1,1,2,1,1,2,1,2,2,2,2,1,2,2,2,1,1,2,2]]
noncomputable def tfL:List (List Nat):=[[],[0],[0],[0,2],[0,2],[0,2],[0,2,3,4],[0,2,3,5],[0,2,3,4],[0,2,3,6],[0,2,3,5,6,7],[0,2,3,4],[0,2,3,4,5,6,9,10],[0,2,3,4,8,10],[0,2,3,4,5,6,7,8],[0,2,3,4,5,6,9,10],[0,2,3,4,7,8,11,12],[0,2,3,4,6,7],[0,2,3,4,5,6,9,10,11,12,15,16],[0,2,3,4,5,8,11,12],[0,2,3,4,5,6,7,8,9,10,15,16],[0,2,3,4,5,7,8,9,12,15,16,17],[0,2,3,4,5,6,9,10,11,12,15,16],[0,2,3,4,5,6,7,8],[0,2,3,4,5,6,7,8,9,10,11,12,15,16,21,22],[0,2,3,4,5,10,14,15,18,20],[0,2,3,4,5,7,8,9,10,13,14,15,16,21],[0,2,3,4,5,6,7,8,9,12,15,18],[0,2,3,4,5,6,7,8,13,14,17,18,19,20,21,22],[0,2,3,4,5,6,9,10,11,12],[0,2,3,4,5,6,7,8,9,10,11,12,13,14,15,16,21,22,25,26,27,28,32,43],[0,2,3,4,5,6,8,9,12,13,17,26],[0,2,3,4,5,6,7,8,11,12,13,14,15,16,23,24],[0,2,3,4,5,6,7,10,11,12,18,19,20,21,22,25],[0,2,3,4,5,6,7,8,9,10,13,17,18,19,20,21,23,24],[0,2,3,4,5,6,7,8,9,10,11,12,15,16,21,22],[0,2,3,4,5,6,9,10,11,12,15,16,17,18,21,22,23,24,27,28,29,30,33,34],[0,2,3,4,5,6,8,11,14,15,16,20,26,27],[0,2,3,4,5,6,7,8,9,10,11,12,13,14,17,18,19,20,23,24],[0,2,3,4,5,6,7,8,9,10,13,14,15,16,17,21,22,23,27,28],[0,2,3,4,5,6,7,8,9,10,11,12,15,16,19,20,23,24,25,26,27,28,35,36],[0,2,3,4,5,6,7,12,13,14,15,16,19,32],[0,2,3,4,5,6,7,8,9,10,11,12,13,14,15,16,17,18,21,22,23,24,27,28,33,34,35,36,39,40,46,59],[0,2,3,4,5,6,7,9,10,11,12,13,23,24,27,37],[0,2,3,4,5,6,7,8,9,10,11,12,13,14,15,16,17,18,19,20,21,22,33,34],[0,2,3,4,5,6,7,8,9,10,13,14,15,18,19,20,21,24,25,30,34,35,36,40],[0,2,3,4,5,6,7,8,11,12,17,18,19,20,21,22,23,24,31,32,33,34,37,38],[0,2,3,4,5,6,7,8,9,10,11,12,13,16,22,30],[0,2,3,4,5,6,7,8,9,10,11,12,15,16,17,18,21,22,23,24,27,28,29,30,33,34,35,36,39,40,45,46]]
noncomputable def kpL:List (List Nat):=[[],[],[0],[0],[0,3],[0],[0,3,4],[0],[0,3,5],[0,4,7],[0,3,6],[0,5,7],[0,3,4,5,7],[0],[0,3,8,11,18],[0,4,6,13,19],[0,3,5,9,13],[0,8,10],[0,3,4,7,10,13,16],[0,6,14],[0,3,5,6,11,17,23],[0,4,8,13,19],[0,3,7,12,17,19,28],[0,9,11,13,15],[0,3,4,5,7,9,13,26,36],[0,6,11,16,21],[0,3,11,14,19,23,33],[0,4,7,10,19,22,25],[0,3,5,8,15,23,25,32,39],[0,7,14,16,23],[0,3,4,6,7,11,16,23,35,38,41,49,52],[0,10,14,18,22],[0,3,5,9,13,17,25,27,29],[0,4,8,12,23,26,28,31,41],[0,3,11,15,18,25,29,31,43],[0,6,8,13,19,23,26,31,41],[0,3,4,5,7,10,13,16,19,25,31,41,48],[0,9,17,21,29],[0,3,15,20,25,27,29,31,33,35,48],[0,4,11,14,25,31,34,37,48],[0,3,5,6,9,11,21,29,33,37,43,48,62],[0,8,17,20,22,25,34],[0,3,4,7,8,15,22,31,37,44,47,50,53,56,60,68,73],[0,14,16,19,25,28,30],[0,3,5,12,23,27,31,35,37,39,41,50,61],[0,4,6,7,10,16,26,31,37,41,43,49,63],[0,3,9,13,15,24,27,29,35,39,41,43,58],[0,14,17,20,23,25,28,31,34],[0,3,4,5,7,9,13,17,25,29,37,43,50,53,63,66,71]]
noncomputable def odL:List (List Nat):=[[],[],[],[3],[4],[5],[6,5,8],[7,3,5],[8,7,6],[9,3,6],[10,9,14,13,12],[11,6,8],[12,11,14,18,6,10,20],[13,4,10,3,8],[14,13,10,7,17,16,12],[15,12,11,17,10,3,9],[16,15,4,8,12,19,18],[17,9,12,11,15],[18,17,26,25,6,12,30,24,23,22,21],[19,5,8,12,4,11,10],[20,19,28,22,18,29,10,16,27,15,14],[21,5,12,17,11,10,27,26,9,16,29],[22,21,11,27,16,6,10,15,5,9,8],[23,12,16,18,10,20,14],[24,23,29,33,34,28,12,22,27,37,44,21,20,19,18],[25,5,10,15,20,4,18,3,14],[26,25,18,10,13,32,21,9,20,37,36,35,12],[27,21,24,9,18,17,16,23,29,15,14],[28,27,7,37,14,22,4,21,34,6,20,40,38,24,30],[29,15,20,6,12,5,11,19,17],[30,29,44,34,33,60,10,15,37,22,32,43,9,14,21,28,8,20,27,65,64,62,56],[31,6,13,17,26,16,9,12,11,24,23],[32,31,8,12,28,37,16,24,11,36,23,22,21,20,35],[33,11,39,22,25,10,21,9,14,37,35,20,3,19,32],[34,33,10,13,17,42,24,12,47,28,9,23,8,21,7,20,27],[35,18,5,30,29,12,22,4,21,17,11,16,10,15,14],[36,35,44,51,6,40,12,59,18,24,30,60,58,39,38,57,49,43,42,65,56,54,46],[37,8,11,16,27,6,15,26,5,14,20,19,13],[38,37,26,43,14,19,47,24,13,18,23,12,17,16,51,28,55,22,46],[39,30,10,13,17,23,9,22,8,21,20,19,7,16,6,15,29,53,46],[40,39,53,47,32,31,30,52,20,28,36,4,27,35,49,63,67,26,8,25,46,45,34],[41,21,28,7,16,19,32,6,15,5,14,27,18],[42,41,62,80,71,49,21,52,36,40,46,59,58,45,76,55,20,35,39,38,84,34,83,30,29,28,33,32,79,27,26],[43,7,13,24,37,23,27,22,15,33,18,17,20,31,40],[44,43,30,29,36,48,26,11,59,28,46,42,65,22,34,10,33,9,32,53,38,62,60],[45,58,59,15,25,30,36,40,5,24,35,23,22,53,39,38,66,21,34,33,29,28,27],[46,45,8,23,57,34,38,7,12,22,33,37,6,11,21,32,5,20,31,4,19,68,28],[47,24,32,36,13,16,22,30,29,40,21,42,27,15,18],[48,47,59,75,42,41,64,58,12,16,24,28,36,40,46,57,56,27,39,45,23,44,86,35,22,34,21,33,20,19,32]]
noncomputable def psL:List Nat:=[0,0,0,1,1,1,1,1,1,1,1,1,2,2,2,2,2,1,2,3,3,3,4,1,3,3,3,3,4,3,4,3,3,5,5,5,2,4,4,6,5,4,6,3,3,4,6,2,6]
def ldOk (n:Nat)(m:Mt)(ss:List (Nat×Nat))(t:List Nat):Bool :=
 beq t.length ss.length && (List.zip ss t).all fun z=>match ss[z.2]? with
  | some r=>(((z.1.1:Int)*m.a+z.1.2*m.c)*r.2 - ((z.1.1:Int)*m.b+z.1.2*m.d)*r.1) % (n:Int) == 0
  | none=>false
theorem aD3 {n:Nat}(n1:1≤n)(n2:n≤48){m:Mt}(hd:gcd m.det n=1){t:List Nat}(h:ldOk n m (syms n) t=true):leads n m=t:=by
 unfold ldOk at h
 rw [Bool.and_eq_true] at h
 obtain⟨h1,h2⟩:=h
 have hl:t.length=(syms n).length:=eq_of_beq_eq_true h1
 refine ext_getElem (by rw [ad7,hl]) fun i hi ht=>?_
 have hs:i < (syms n).length:=by rw [ad7] at hi;exact hi
 have hz:=all_eq_true.mp h2 ((syms n)[i],t[i]) (by
  rw [List.mem_iff_getElem]
  exact⟨i,by rw [List.length_zip];omega,by rw [List.getElem_zip]⟩)
 have e:(leads n m)[i]=lead n m (syms n)[i]:=getElem_map ..
 rw [e]
 dsimp only at hz
 cases hr:(syms n)[t[i]]? with
 | none=>rw [hr] at hz;cases hz
 | some r =>
  rw [hr] at hz
  dsimp only at hz
  rw [beq_iff_eq] at hz
  have g:=ao0 n1 hd (ao1 (getElem_mem hs))
  have:=(ar9 n1 n2 g hr).mpr (Int.dvd_of_emod_eq_zero hz)
  unfold lead mv
  rw [this]
  rfl
def hvX:Mt:=⟨0,-1,1,0⟩
def thX:Mt:=⟨1,-1,1,0⟩
def foX:Mt:=⟨1,1,0,1⟩
def hvT (n:Nat):List Nat:=hvL.getD n []
def thT (n:Nat):List Nat:=thL.getD n []
def foT (n:Nat):List Nat:=foL.getD n []
def bD9 (n:Nat):Bool:=ldOk n hvX (symL.getD n []) (hvT n) && ldOk n thX (symL.getD n []) (thT n) && ldOk n foX (symL.getD n []) (foT n)
theorem bT7:∀ n,n≤48→1≤n→bD9 n=true:=by decide +kernel
theorem tabs {n:Nat}(n1:1≤n)(n2:n≤48):leads n hvX=hvT n∧leads n thX=thT n∧leads n foX=foT n:=by
 have h:=bT7 n n2 n1
 unfold bD9 at h
 rw [Bool.and_eq_true,Bool.and_eq_true,← bJ8 n n2 n1] at h
 exact⟨aD3 n1 n2 (by rw [show hvX.det=1 from rfl,gcd_one_left]) h.1.1,aD3 n1 n2 (by rw [show thX.det=1 from rfl,gcd_one_left]) h.1.2,aD3 n1 n2 (by rw [show foX.det=1 from rfl,gcd_one_left]) h.2⟩
def at0 (l:List Nat)(i:Nat):Nat:=l.getD i 0
structure Grp (l C G:List Nat):Prop where
 len:C.length=l.length
 inv:∀ x,x < l.length→at0 C (at0 l x)=at0 C x
 lt:∀ x,x < l.length→at0 C x < G.length
 le:∀ x,x < l.length→at0 G (at0 C x)≤x
 back:∀ x,x < l.length→∃ j,itr (at0 l) j x=at0 G (at0 C x)
 asc:G.Pairwise (· < ·)
 own:∀ g,g∈G→g < l.length∧at0 G (at0 C g)=g
def ascB:List Nat→Bool
 | []=>true
 | [_]=>true
 | x::y::r=>Nat.blt x y && ascB (y::r)
theorem aX2:∀ {l:List Nat},ascB l=true→l.Pairwise (· < ·)
 | [],_=>.nil
 | [_],_=>List.pairwise_singleton ..
 | x::y::r,h=>by
  unfold ascB at h
  rw [Bool.and_eq_true] at h
  have ih:=aX2 h.2
  have xy:x < y:=le_of_ble_eq_true h.1
  refine pairwise_cons.mpr ⟨fun z hz=>?_,ih⟩
  rcases mem_cons.mp hz with rfl | hz
  ·exact xy
  ·exact lt_trans xy ((pairwise_cons.mp ih).1 z hz)
def aT9 (l C D G:List Nat):Bool :=
 beq C.length l.length && ascB G && (List.range l.length).all (fun x=>beq (at0 C (at0 l x)) (at0 C x) && Nat.blt (at0 C x) G.length && ble (at0 G (at0 C x)) x &&
  (match at0 D x with
   | 0=>beq x (at0 G (at0 C x))
   | d+1=>beq (at0 D (at0 l x)) d)) && G.all (fun g=>Nat.blt g l.length && beq (at0 G (at0 C g)) g)
theorem bq1 {l C D G:List Nat}{k:Nat}(cy:Cyc (at0 l) l.length k)(h:aT9 l C D G=true):Grp l C G:=by
 unfold aT9 at h
 rw [Bool.and_eq_true,Bool.and_eq_true,Bool.and_eq_true,all_eq_true,all_eq_true] at h
 obtain⟨⟨⟨h1,h2⟩,h3⟩,h4⟩:=h
 have p:∀ x,x < l.length→at0 C (at0 l x)=at0 C x∧at0 C x < G.length∧at0 G (at0 C x)≤x∧(match at0 D x with
   | 0=>beq x (at0 G (at0 C x))
   | d+1=>beq (at0 D (at0 l x)) d)=true:=fun x hx=>by
  have:=h3 x (mem_range.mpr hx)
  rw [Bool.and_eq_true,Bool.and_eq_true,Bool.and_eq_true] at this
  exact⟨eq_of_beq_eq_true this.1.1.1,le_of_ble_eq_true this.1.1.2,le_of_ble_eq_true this.1.2,this.2⟩
 refine⟨eq_of_beq_eq_true h1,fun x hx=>(p x hx).1,fun x hx=>(p x hx).2.1,fun x hx=>(p x hx).2.2.1,?_,aX2 h2,fun g hg=>?_⟩
 ·have key:∀ d x,x < l.length→at0 D x=d→∃ j,itr (at0 l) j x=at0 G (at0 C x):=by
   intro d
   induction d with
   | zero =>
    intro x hx e
    have:=(p x hx).2.2.2
    rw [e] at this
    exact⟨0,eq_of_beq_eq_true this⟩
   | succ d ih =>
    intro x hx e
    have:=(p x hx).2.2.2
    rw [e] at this
    obtain⟨j,hj⟩:=ih (at0 l x) (cy.lt x hx) (eq_of_beq_eq_true this)
    refine⟨j+1,?_⟩
    rw [af1]
    show itr (at0 l) j (at0 l x)=_
    rw [hj,(p x hx).1]
  exact fun x hx=>key _ x hx rfl
 ·have:=h4 g hg
  rw [Bool.and_eq_true] at this
  exact⟨le_of_ble_eq_true this.1,eq_of_beq_eq_true this.2⟩
section
variable {l C G:List Nat}{k:Nat}
theorem Grp.ring (g:Grp l C G)(cy:Cyc (at0 l) l.length k){x:Nat}(hx:x < l.length):∀ j,at0 C (itr (at0 l) j x)=at0 C x
 | 0=>rfl
 | j+1=>by
  show at0 C (at0 l (itr (at0 l) j x))=_
  rw [g.inv _ (cy.it hx j),g.ring cy hx j]
theorem Grp.mem (g:Grp l C G)(cy:Cyc (at0 l) l.length k){f x:Nat}(hf:f < l.length)(h:x∈rg (at0 l) k f):at0 C x=at0 C f:=by
 obtain⟨j,rfl⟩:=(ag8 cy hf).mp h
 exact g.ring cy hf j
theorem Grp.all (g:Grp l C G)(cy:Cyc (at0 l) l.length k){x:Nat}(hx:x < l.length):x∈rg (at0 l) k (at0 G (at0 C x)):=by
 obtain⟨j,hj⟩:=g.back x hx
 exact aD0 cy hx ((ag8 cy hx).mpr ⟨j,hj.symm⟩)
theorem bK0:∀ {a b:List Nat},a.Pairwise (· < ·)→b.Pairwise (· < ·)→(∀ x,x∈a↔x∈b)→a=b:=by
 intro a b ha hb h
 have:a.Perm b:=(List.perm_ext_iff_of_nodup (ha.imp ne_of_lt) (hb.imp ne_of_lt)).mpr h
 exact this.eq_of_pairwise (le:=fun x y=>x < y) (fun x y _ _ h1 h2=>by omega) ha hb
theorem Grp.gs (g:Grp l C G)(cy:Cyc (at0 l) l.length k):gs (at0 l) k l.length=G:=by
 refine bK0 (Pairwise.filter _ pairwise_lt_range) g.asc fun x=>?_
 unfold Fr.gs
 rw [mem_filter,mem_range,isF_iff]
 constructor
 ·rintro ⟨hx,h⟩
  have le:=g.le x hx
  rcases lt_or_ge (at0 G (at0 C x)) x with z | z
  ·exact absurd (g.all cy hx) (h _ z)
  ·have:at0 G (at0 C x)=x:=by omega
   rw [← this]
   have lt:=g.lt x hx
   generalize at0 C x=c at lt
   unfold at0
   rw [getD_eq_getElem?_getD,getElem?_eq_getElem lt]
   exact getElem_mem lt
 ·intro hx
  obtain⟨h1,h2⟩:=g.own x hx
  refine⟨h1,fun g' lt hm=>?_⟩
  have hg':g' < l.length:=by omega
  have e:=g.mem cy hg' hm
  have:=g.le g' hg'
  rw [← e,h2] at this
  omega
end
def cgT (n:Nat):List Nat:=cgL.getD n []
def cfT (n:Nat):List Nat:=cfL.getD n []
def tgT (n:Nat):List Nat:=tgL.getD n []
def tfT (n:Nat):List Nat:=tfL.getD n []
def bq2 (n:Nat):Bool:=aT9 (foT n) (cgT n) (cdL.getD n []) (cfT n) && aT9 (thT n) (tgT n) (tdL.getD n []) (tfT n)
theorem bK1:∀ n,n≤48→1≤n→bq2 n=true:=by decide +kernel
end
noncomputable section
def kpT (n:Nat):List Nat:=kpL.getD n []
def odT (n:Nat):List Nat:=odL.getD n []
def psT (n:Nat):Nat:=psL.getD n 0
def hasN (l:List Nat)(x:Nat):Bool:=l.any (beq x)
def ak2 (H:List Nat):List Nat:=(List.range H.length).filter fun g=>Nat.blt g (at0 H g)
def am4 (H:List Nat):List Nat→List Nat→List Nat→List Nat
 | [],_,told=>told
 | s::r,g,told=>bif beq (at0 g s) (at0 g (at0 H s)) then am4 H r g told else am4 H r (g.map fun e=>bif beq e (at0 g s) then at0 g (at0 H s) else e) (told++[s])
def ag9 (kn:List Bool)(t:List Nat):List Nat:=t.filter fun x=>!(kn.getD x true)
def stepK (H:List Nat)(st:List Nat×List Bool)(t:List Nat):List Nat×List Bool :=
 match ag9 st.2 t with
 | [x]=>(st.1++[x],(st.2.set x true).set (at0 H x) true)
 | _=>st
def aL9 (H:List Nat)(ts:List (List Nat))(st:List Nat×List Bool):List Nat×List Bool:=ts.foldl (stepK H) st
def af6 (H:List Nat)(ts:List (List Nat)):Nat→List Nat×List Bool→List Nat×List Bool
 | 0,st=>st
 | j+1,st=>aL9 H ts (af6 H ts j st)
def ah2 (H kp:List Nat):List Bool:=(List.range H.length).map fun x=>beq (at0 H x) x || hasN kp x || hasN kp (at0 H x)
def ak5 (T G:List Nat):List (List Nat):=G.map (rg (at0 T) 3)
def aU0 (n:Nat):List Nat:=am4 (hvT n) (ak2 (hvT n)) (cgT n) []
def bf3 (n:Nat):List Nat:=(ak2 (hvT n)).filter fun s=>!hasN (aU0 n) s
def aA0 (n:Nat):List Nat:=am4 (hvT n) (bf3 n) (tgT n) []
def bj1 (n:Nat):List Nat:=(ak2 (hvT n)).filter fun s=>!hasN (aA0 n) s
def eqN:List Nat→List Nat→Bool
 | [],[]=>true
 | x::l,y::m=>beq x y && eqN l m
 | _,_=>false
theorem aX3:∀ {l m:List Nat},eqN l m=true→l=m
 | [],[],_=>rfl
 | x::l,y::m,h=>by
  unfold eqN at h
  rw [Bool.and_eq_true] at h
  rw [eq_of_beq_eq_true h.1,aX3 h.2]
 | [],_::_,h=>by cases h
 | _::_,[],h=>by cases h
def keptOk (n:Nat):Bool:=eqN (bj1 n) (kpT n) && beq (hvT n).length (symL.getD n []).length && beq (thT n).length (hvT n).length && ble (kpT n).length 40 && ble (hvT n).length 96 && ascB (kpT n) && (kpT n).all (fun x=>Nat.blt x (hvT n).length)
theorem bK2:∀ n,n≤48→1≤n→keptOk n=true:=by decide +kernel
def bE0 (n:Nat):Bool:=eqN (af6 (hvT n) (ak5 (thT n) (tfT n)) (psT n) ([],ah2 (hvT n) (kpT n))).1 (odT n) && (af6 (hvT n) (ak5 (thT n) (tfT n)) (psT n) ([],ah2 (hvT n) (kpT n))).2.all id
theorem bT8:∀ n,n≤48→1≤n→bE0 n=true:=by decide +kernel
def addZ (row other:List Int)(m:Int):List Int:=List.zipWith (fun a b=>a+m*b) row other
def aj6 (k j:Nat):List Int:=replicate j 0++1::replicate (k - j - 1) 0
def aj7 (H:List Nat)(R:List (List Int))(x:Nat)(row:List Int):List (List Int):=(R.set x row).set (at0 H x) (row.map fun e=>-e)
def aA1 (H:List Nat)(k:Nat):Nat→List Nat→List (List Int)→List (List Int)
 | _,[],R=>R
 | j,x::r,R=>aA1 H k (j+1) r (aj7 H R x (aj6 k j))
def rowB (T:List Nat)(k:Nat)(R:List (List Int))(x:Nat):List Int:=(rg (at0 T) 3 x).tail.foldl (fun row o=>addZ row (R.getD o []) (-1)) (replicate k 0)
def aM0 (H T:List Nat)(k:Nat):List Nat→List (List Int)→List (List Int)
 | [],R=>R
 | x::r,R=>aM0 H T k r (aj7 H R x (rowB T k R x))
def ac5 (n:Nat):List (List Int):=aM0 (hvT n) (thT n) (kpT n).length (odT n) (aA1 (hvT n) (kpT n).length 0 (kpT n) (replicate (hvT n).length (replicate (kpT n).length 0)))
def atR (R:List (List Int))(i:Nat):List Int:=R.getD i []
def aG2:List Int→List Int→List Int→Bool
 | [],[],[]=>true
 | a::l,b::m,c::r=>a+b+c == 0 && aG2 l m r
 | _,_,_=>false
def neg2:List Int→List Int→Bool
 | [],[]=>true
 | a::l,b::m=>a+b == 0 && neg2 l m
 | _,_=>false
def eqZ:List Int→List Int→Bool
 | [],[]=>true
 | x::l,y::m=>x == y && eqZ l m
 | _,_=>false
theorem eqZ_eq:∀ {l m:List Int},eqZ l m=true→l=m
 | [],[],_=>rfl
 | x::l,y::m,h=>by
  unfold eqZ at h
  rw [Bool.and_eq_true,beq_iff_eq] at h
  rw [h.1,eqZ_eq h.2]
 | [],_::_,h=>by cases h
 | _::_,[],h=>by cases h
def aM1 (R:List (List Int))(k:Nat):Nat→List Nat→Bool
 | _,[]=>true
 | j,x::r=>eqZ (atR R x) (aj6 k j) && aM1 R k (j+1) r
def bE1 (R:List (List Int))(H T:List Nat)(k:Nat):Bool:=(List.range H.length).all fun x=>beq (atR R x).length k && neg2 (atR R x) (atR R (at0 H x)) && aG2 (atR R x) (atR R (at0 T x)) (atR R (at0 T (at0 T x))) && (atR R x).all (fun e=>ble e.natAbs 1000)
def bq3 (n:Nat)(R:List (List Int)):Bool:=beq R.length (hvT n).length && aM1 R (kpT n).length 0 (kpT n) && bE1 R (hvT n) (thT n) (kpT n).length
theorem bK3:∀ n,n≤48→1≤n→bq3 n (ac5 n)=true:=by decide +kernel
end
def rcN (n m:Nat):Nat:=((List.range n).filter fun x=>(x*x+m*x+1) % n == 0).length
def rcOk (n:Nat)(ss:List (Nat×Nat)):Bool:=(ss.filter fun s=>(s.2*s.2+s.1*s.1) % n == 0).length == rcN n 0 && (ss.filter fun s=>(s.2*s.2+s.1*s.2+s.1*s.1) % n == 0).length == rcN n 1
theorem ca8:∀ n,n≤48→1≤n→rcOk n (syms n)=true:=by decide +kernel
theorem bE2 {n:Nat}(n1:1≤n)(n2:n≤48):fxs n 1 0 1=rcN n 0∧fxs n 1 (-1) 1=rcN n 1:=by
 have h:=ca8 n n2 n1
 unfold rcOk at h
 rw [Bool.and_eq_true,beq_iff_eq,beq_iff_eq] at h
 have dv:∀ a:Nat,decide ((n:Int)∣(a:Int))=(a % n == 0):=fun a=>by
  rw [Bool.eq_iff_iff,decide_eq_true_iff,beq_iff_eq,natCast_dvd_natCast]
  exact Nat.dvd_iff_mod_eq_zero
 refine⟨?_,?_⟩
 ·rw [← h.1]
  unfold fxs
  refine congrArg _ (filter_congr fun s _=>?_)
  rw [← dv]
  have e:fF 1 0 1 s.1 s.2=((s.2*s.2+s.1*s.1:Nat):Int):=by
   unfold fF
   rw [Int.natCast_add,natCast_mul,natCast_mul]
   grind
  rw [e]
 ·rw [← h.2]
  unfold fxs
  refine congrArg _ (filter_congr fun s _=>?_)
  rw [← dv]
  have e:fF 1 (-1) 1 s.1 s.2=((s.2*s.2+s.1*s.2+s.1*s.1:Nat):Int):=by
   unfold fF
   rw [Int.natCast_add,Int.natCast_add,natCast_mul,natCast_mul,natCast_mul]
   grind
  rw [e]
section
variable {π:Nat→Nat}{N k:Nat}
theorem bx8 (h:Cyc π N k){g:Nat}(hg:g < N):(rg π k g).Nodup:=by
 unfold rg
 rw [List.nodup_iff_pairwise_ne,List.pairwise_map]
 refine Pairwise.imp_of_mem ?_ pairwise_lt_range
 intro i j hi hj lt e
 have hj':=mem_range.mp hj
 obtain⟨a,b,c⟩:=aq6 h hg
 have e2:itr π (j - i) g=g:=by
  have e3:itr π (rl π k g - i) (itr π i g)=itr π (rl π k g - i) (itr π j g):=by rw [e]
  rw [← af1,← af1,show rl π k g - i+i=rl π k g by omega,a,show rl π k g - i+j=(j - i)+rl π k g by omega,af1,a] at e3
  exact e3.symm
 exact c (j - i) (by omega) (by omega) e2
theorem bT9 (g:Nat):(rg π k g).length=rl π k g:=by
 unfold rg
 rw [length_map,length_range]
theorem ar0 {g:Nat}(hg:g∈gs π k N):g < N∧isF π k g=true:=by
 obtain⟨h1,h2⟩:=mem_filter.mp hg
 exact⟨mem_range.mp h1,h2⟩
theorem bx9 (h:Cyc π N k){x:Nat}(hx:x < N):∃ g∈gs π k N,x∈rg π k g:=by
 induction x using Nat.strongRecOn with
 | ind x ih =>
  by_cases c:isF π k x=true
  ·exact⟨x,mem_filter.mpr ⟨mem_range.mpr hx,c⟩,bf0 h hx⟩
  ·obtain⟨g',lt,hm⟩:∃ g',g' < x∧x∈rg π k g':=by
    apply Classical.byContradiction
    intro z
    exact c (isF_iff.mpr fun g' lt hm=>z ⟨g',lt,hm⟩)
   obtain⟨g,h1,h2⟩:=ih g' lt (by omega)
   exact⟨g,h1,aI6 h (ar0 h1).1 h2 hm⟩
theorem bj2 (h:Cyc π N k):((gs π k N).flatMap (rg π k)).Nodup:=by
 rw [List.nodup_iff_pairwise_ne,List.pairwise_flatMap]
 refine⟨fun g hg=>bx8 h (ar0 hg).1,?_⟩
 have asc:(gs π k N).Pairwise (· < ·):=Pairwise.filter _ pairwise_lt_range
 refine Pairwise.imp_of_mem ?_ asc
 intro a b ha hb lt x hx y hy e
 subst e
 have h1:=aD0 h (ar0 hb).1 hy
 exact isF_iff.mp (ar0 hb).2 a lt (aI6 h (ar0 ha).1 hx h1)
theorem bq4 (h:Cyc π N k):((gs π k N).flatMap (rg π k)).Perm (List.range N):=by
 refine (List.perm_ext_iff_of_nodup (bj2 h) List.nodup_range).mpr fun x=>?_
 rw [mem_range,List.mem_flatMap]
 constructor
 ·rintro ⟨g,hg,hx⟩
  exact az9 h (ar0 hg).1 hx
 ·exact fun hx=>bx9 h hx
theorem aD4 (c:Nat)(f:Nat→Nat):∀ l:List Nat,(∀ x∈l,f x=c)→(l.map f).sum=l.length*c
 | [],_=>by simp
 | x::l,h=>by
  rw [map_cons,sum_cons,h x mem_cons_self,aD4 c f l fun y hy=>h y (mem_cons_of_mem _ hy),length_cons,add_mul,one_mul,Nat.add_comm]
theorem aX4 (c:Nat→Nat)(r:Nat→List Nat):∀ l:List Nat,(∀ g∈l,∀ x∈r g,c x=c g)→((l.flatMap r).map c).sum=(l.map fun g=>(r g).length*c g).sum
 | [],_=>rfl
 | g::l,h=>by
  rw [List.flatMap_cons,map_append,sum_append,map_cons,sum_cons,aD4 (c g) c (r g) (h g mem_cons_self),aX4 c r l fun y hy=>h y (mem_cons_of_mem _ hy)]
theorem by0 (h:Cyc π N k)(c:Nat→Nat)(hc:∀ x,x < N→c (π x)=c x):((gs π k N).map fun g=>rl π k g*c g).sum=((List.range N).map c).sum:=by
 rw [← ((bq4 h).map c).sum_nat,aX4 c (rg π k) _ ?_]
 ·simp only [bT9]
 ·intro g hg x hx
  have lt:=(ar0 hg).1
  obtain⟨j,rfl⟩:=(ag8 h lt).mp hx
  clear hx
  induction j with
  | zero=>rfl
  | succ j ih=>exact (hc _ (h.it lt j)).trans ih
theorem bK4 (h:Cyc π N k){x:Nat}(hx:x < N):rl π k (π x)=rl π k x:=by
 obtain⟨a,b,c⟩:=aq6 h hx
 have kp:=h.pos
 refine aT8 h (h.lt x hx) (aL8 x) ?_ fun j j1 j2 e=>c j j1 j2 ?_
 ·have e1:itr π (rl π k x+1) x=itr π (rl π k x) (π x):=af1 π 1 x _
  rw [← e1]
  show π (itr π (rl π k x) x)=π x
  rw [a]
 ·have e1:itr π (j+1) x=itr π j (π x):=af1 π 1 x _
  have e2:itr π (k - 1) (itr π (j+1) x)=itr π (k - 1) (π x):=by rw [e1,e]
  have e3:itr π (k - 1+1) x=itr π (k - 1) (π x):=af1 π 1 x _
  rw [← e3,← af1,show k - 1+(j+1)=j+k by omega,af1,show k - 1+1=k by omega,h.cy x hx] at e2
  exact e2
end
def foM:Mt:=⟨1,1,0,1⟩
theorem aG3:∀ j:Nat,pwM foM j=⟨1,j,0,1⟩
 | 0=>rfl
 | j+1=>by
  show (pwM foM j).mul foM=_
  rw [aG3 j]
  show Mt.mk (1*1+(j:Int)*0) (1*1+(j:Int)*1) (0*1+1*0) (0*1+1*1)=_
  congr 1
  omega
theorem aM2 (n j:Nat):gcd (pwM foM j).det n=1:=by
 rw [aG3]
 show gcd (1*1 - (j:Int)*0) n=1
 rw [mul_zero,mul_one,Int.sub_zero,gcd_one_left]
theorem bf4 (n:Nat):gcd foM.det n=1:=aM2 n 1
theorem aM3 {n:Nat}(n1:1≤n)(n2:n≤48):Cyc (fun i=>(leads n foM).getD i 0) (leads n foM).length n:=by
 refine aq9 n1 n2 (bf4 n) n1 (aM2 n n) ?_ ?_ ?_
 ·rw [aG3];exact⟨1,(mul_one _).symm⟩
 ·rw [aG3];exact⟨0,(mul_zero _).symm⟩
 ·rw [aG3];exact⟨0,(mul_zero _).symm⟩
theorem bU0 {n:Nat}(hn:1≤n)(h48:n≤48){m:Mt}(hd:gcd m.det n=1){i j:Nat}(hj:gcd (pwM m j).det n=1){s:Nat×Nat}(hs:(syms n)[i]?=some s):itr (fun i=>(leads n m).getD i 0) j i=lead n (pwM m j) s:=by
 obtain⟨s1,h1,h2⟩:=aG1 hn h48 hd hs j
 obtain⟨s2,h3,h4⟩:=aO5 hn h48 hj (mem_of_getElem? hs)
 have hR:inR n (mv n (pwM m j) s):=aD1 hn _ _
 have m1:=mem_of_getElem? h1
 have m2:=mem_of_getElem? h3
 have h5:=ak7 hn h48 hR h2
 have e:=aq8 hn h48 (al4 m1) (ah6 m1) (ah6 m2) (ah5 h48 h5 h4)
 rw [← e] at h3
 exact az8 (az7 n (n*n)) h1 h3
theorem bq5 {n:Nat}(hn:1≤n)(h48:n≤48){i j:Nat}{s:Nat×Nat}(hs:(syms n)[i]?=some s):itr (fun i=>(leads n foM).getD i 0) j i=i↔n∣j*(s.1*s.1):=by
 rw [bU0 hn h48 (bf4 n) (aM2 n j) hs,aI7 hn h48 (aM2 n j) hs,aG3]
 show (n:Int)∣((s.1:Int)*1+s.2*0)*s.2 - ((s.1:Int)*(j:Int)+s.2*1)*s.1↔_
 have e:((s.1:Int)*1+s.2*0)*s.2 - ((s.1:Int)*(j:Int)+s.2*1)*s.1=-((j*(s.1*s.1):Nat):Int):=by
  rw [natCast_mul,natCast_mul]
  grind
 rw [e,Int.dvd_neg,natCast_dvd_natCast]
theorem bE3 {n:Nat}(hn:1≤n)(h48:n≤48){i:Nat}{s:Nat×Nat}(hs:(syms n)[i]?=some s):rl (fun i=>(leads n foM).getD i 0) n i=n / Nat.gcd (s.1*s.1) n:=by
 have hi:i < (leads n foM).length:=by rw [ad7];exact (List.getElem?_eq_some_iff.mp hs).1
 have gp:0 < Nat.gcd (s.1*s.1) n:=Nat.gcd_pos_of_pos_right _ hn
 have gd:Nat.gcd (s.1*s.1) n∣n:=gcd_dvd_right _ _
 have ga:Nat.gcd (s.1*s.1) n∣s.1*s.1:=gcd_dvd_left _ _
 have key:∀ j,n∣j*(s.1*s.1)↔n / Nat.gcd (s.1*s.1) n∣j:=fun j=>by
  constructor
  ·intro hd
   have cp:Coprime (n / Nat.gcd (s.1*s.1) n) (s.1*s.1 / Nat.gcd (s.1*s.1) n):=(Nat.coprime_div_gcd_div_gcd gp).symm
   refine cp.dvd_of_dvd_mul_right ?_
   obtain⟨w,ew⟩:=hd
   refine⟨w,?_⟩
   apply Nat.eq_of_mul_eq_mul_left gp
   rw [Nat.mul_left_comm,Nat.mul_div_cancel' ga,ew,← mul_assoc _ _ w,Nat.mul_div_cancel' gd]
  ·rintro ⟨w,rfl⟩
   obtain⟨b,eb⟩:=ga
   refine⟨w*b,?_⟩
   have e1:n / Nat.gcd (s.1*s.1) n*Nat.gcd (s.1*s.1) n=n:=Nat.div_mul_cancel gd
   calc n / Nat.gcd (s.1*s.1) n*w*(s.1*s.1)=n / Nat.gcd (s.1*s.1) n*w*(Nat.gcd (s.1*s.1) n*b):=congrArg _ eb
    _=(n / Nat.gcd (s.1*s.1) n*Nat.gcd (s.1*s.1) n)*(w*b):=by grind
    _=n*(w*b):=by rw [e1]
 refine aT8 (aM3 hn h48) hi (Nat.div_pos (le_of_dvd hn gd) gp) ((bq5 hn h48 hs).mpr ((key _).mpr (Nat.dvd_refl _))) fun j j1 j2 e=>?_
 have:=le_of_dvd j1 ((key j).mp ((bq5 hn h48 hs).mp e))
 omega
theorem bq6 {α:Type}(f:α→Nat)(c:Nat→Nat)(ss:List α)(h:∀ i s,ss[i]?=some s→c i=f s):((List.range ss.length).map c).sum=(ss.map f).sum:=by
 have:(List.range ss.length).map c=ss.map f:=by
  refine ext_getElem (by simp) fun i h1 h2=>?_
  rw [getElem_map,getElem_map,getElem_range]
  rw [length_map] at h2
  exact h i _ (getElem?_eq_getElem h2)
 rw [this]
def hmS (n:Nat)(ss:List (Nat×Nat)):Nat:=(ss.map fun s=>Nat.gcd (s.1*s.1) n).sum
theorem by1 {n:Nat}(hn:1≤n)(h48:n≤48):n*(gs (fun i=>(leads n foM).getD i 0) n (leads n foM).length).length=hmS n (syms n):=by
 have hc:=aM3 hn h48
 have hs:=by0 hc (fun i=>n / rl (fun i=>(leads n foM).getD i 0) n i) fun x hx=>by
  show n / _=n / _
  rw [bK4 hc hx]
 have at':∀ i,i < (leads n foM).length→∃ s,(syms n)[i]?=some s:=fun i hi=>by
  rw [ad7] at hi
  exact⟨_,getElem?_eq_getElem hi⟩
 have e1:=aD4 n (fun g=>rl (fun i=>(leads n foM).getD i 0) n g*(n / rl (fun i=>(leads n foM).getD i 0) n g)) (gs (fun i=>(leads n foM).getD i 0) n (leads n foM).length) fun g hg=>by
  obtain⟨s,e⟩:=at' g (ar0 hg).1
  rw [bE3 hn h48 e]
  exact Nat.mul_div_cancel' (Nat.div_dvd_of_dvd (gcd_dvd_right _ _))
 rw [e1] at hs
 rw [mul_comm,hs,ad7]
 refine bq6 _ _ (syms n) fun i s e=>?_
 rw [bE3 hn h48 e]
 exact Nat.div_div_self (gcd_dvd_right _ _) (by omega)
def phN (g:Nat):Nat:=(((List.range g).map (·+1)).filter fun r=>Nat.gcd r g == 1).length
def hmN (n:Nat):Nat:=(divs n).foldl (fun m d=>m+phN (Nat.gcd d (n / d))) 0
def gnN (n:Nat):Nat:=(scN n+12 - (3*rcN n 0+4*rcN n 1+6*hmN n)) / 12
def gnOk (n:Nat):Bool:=decide (3*rcN n 0+4*rcN n 1+6*hmN n≤scN n+12) && (scN n+12 - (3*rcN n 0+4*rcN n 1+6*hmN n)) % 12 == 0 && decide (hmN n≤40) && ((decide (n≤10) || n == 12 || n == 13 || n == 16 || n == 18 || n == 25) == (gnN n == 0))
theorem ca9:∀ n,n≤48→1≤n→gnOk n=true:=by decide +kernel
theorem cb0:∀ n,n≤48→1≤n→(hmS n (syms n) == n*hmN n)=true:=by decide +kernel
theorem by2 {n:Nat}(hn:1≤n)(h48:n≤48):(gs (fun i=>(leads n foM).getD i 0) n (leads n foM).length).length=hmN n:=by
 have:=by1 hn h48
 rw [beq_iff_eq.mp (cb0 n h48 hn)] at this
 exact Nat.eq_of_mul_eq_mul_left hn this
noncomputable section
theorem aw9 {n:Nat}(n1:1≤n)(n2:n≤48):(hvT n).length=(syms n).length:=by
 rw [← (tabs n1 n2).1,ad7]
theorem aX5 {n:Nat}(n1:1≤n)(n2:n≤48):(thT n).length=(syms n).length:=by
 rw [← (tabs n1 n2).2.1,ad7]
theorem bU1 {n:Nat}(n1:1≤n)(n2:n≤48):(foT n).length=(syms n).length:=by
 rw [← (tabs n1 n2).2.2,ad7]
structure Kept (n:Nat):Prop where
 eq:bj1 n=kpT n
 few:(kpT n).length≤40
 syms:(hvT n).length≤96
 asc:(kpT n).Pairwise (· < ·)
 lt:∀ x∈kpT n,x < (hvT n).length
theorem as0 {n:Nat}(n1:1≤n)(n2:n≤48):Kept n:=by
 have h:=bK2 n n2 n1
 unfold keptOk at h
 simp only [Bool.and_eq_true] at h
 obtain⟨⟨⟨⟨⟨⟨h1,h2⟩,h3⟩,h4⟩,h5⟩,h6⟩,h7⟩:=h
 exact⟨aX3 h1,le_of_ble_eq_true h4,le_of_ble_eq_true h5,aX2 h6,fun x hx=>le_of_ble_eq_true (all_eq_true.mp h7 x hx)⟩
structure Rows (n:Nat):Prop where
 len:(ac5 n).length=(hvT n).length
 unit:∀ j x,(kpT n)[j]?=some x→atR (ac5 n) x=aj6 (kpT n).length j
 rlen:∀ x,x < (hvT n).length→(atR (ac5 n) x).length=(kpT n).length
 half:∀ x,x < (hvT n).length→neg2 (atR (ac5 n) x) (atR (ac5 n) (at0 (hvT n) x))=true
 third:∀ x,x < (hvT n).length→aG2 (atR (ac5 n) x) (atR (ac5 n) (at0 (thT n) x)) (atR (ac5 n) (at0 (thT n) (at0 (thT n) x)))=true
 small:∀ x,x < (hvT n).length→∀ e∈atR (ac5 n) x,e.natAbs≤1000
theorem aX6 {R:List (List Int)}{k:Nat}:∀ {l:List Nat} {i:Nat},aM1 R k i l=true→∀ j x,l[j]?=some x→atR R x=aj6 k (i+j)
 | [],_,_,j,x,h=>by cases h
 | y::r,i,h,j,x,hx=>by
  unfold aM1 at h
  rw [Bool.and_eq_true] at h
  cases j with
  | zero=>cases hx;exact eqZ_eq h.1
  | succ j =>
   have:=aX6 h.2 j x hx
   rw [this]
   congr 1
   omega
theorem al5 {n:Nat}(n1:1≤n)(n2:n≤48):Rows n:=by
 have h:=bK3 n n2 n1
 unfold bq3 at h
 simp only [Bool.and_eq_true] at h
 obtain⟨⟨h1,h2⟩,h3⟩:=h
 unfold bE1 at h3
 rw [all_eq_true] at h3
 have p:=fun x (hx:x < (hvT n).length)=>by
  have:=h3 x (mem_range.mpr hx)
  simp only [Bool.and_eq_true] at this
  exact this
 refine⟨eq_of_beq_eq_true h1,fun j x hx=>?_,fun x hx=>eq_of_beq_eq_true (p x hx).1.1.1,fun x hx=>(p x hx).1.1.2,fun x hx=>(p x hx).1.2,fun x hx e he=>le_of_ble_eq_true (all_eq_true.mp (p x hx).2 e he)⟩
 have:=aX6 h2 j x hx
 rwa [Nat.zero_add] at this
theorem aX7 {n:Nat}(n1:1≤n)(n2:n≤48):Cyc (at0 (hvT n)) (hvT n).length 2:=by
 have e:=(tabs n1 n2).1
 have:=aq9 (k:=2) (m:=hvX) n1 n2 (by rw [show hvX.det=1 from rfl,gcd_one_left]) (by decide) (by rw [show (pwM hvX 2).det=1 from rfl,gcd_one_left]) ⟨0,by rw [mul_zero];rfl⟩ ⟨0,by rw [mul_zero];rfl⟩ ⟨0,by rw [mul_zero];rfl⟩
 rw [e] at this
 exact this
theorem at9 {n:Nat}(n1:1≤n)(n2:n≤48):Cyc (at0 (thT n)) (thT n).length 3:=by
 have e:=(tabs n1 n2).2.1
 have:=aq9 (k:=3) (m:=thX) n1 n2 (by rw [show thX.det=1 from rfl,gcd_one_left]) (by decide) (by rw [show (pwM thX 3).det=1 from rfl,gcd_one_left]) ⟨0,by rw [mul_zero];rfl⟩ ⟨0,by rw [mul_zero];rfl⟩ ⟨0,by rw [mul_zero];rfl⟩
 rw [e] at this
 exact this
theorem bq7 {n:Nat}(n1:1≤n)(n2:n≤48):Cyc (at0 (foT n)) (foT n).length n:=by
 have e:leads n foM=foT n:=(tabs n1 n2).2.2
 have:=aM3 n1 n2
 rw [e] at this
 exact this
theorem grp2 {n:Nat}(n1:1≤n)(n2:n≤48):Grp (foT n) (cgT n) (cfT n)∧Grp (thT n) (tgT n) (tfT n):=by
 have h:=bK1 n n2 n1
 unfold bq2 at h
 rw [Bool.and_eq_true] at h
 exact⟨bq1 (bq7 n1 n2) h.1,bq1 (at9 n1 n2) h.2⟩
end
end Fr
namespace Fr
open PySem
theorem NextTo.symm {p q:Int×Int}(h:NextTo p q):NextTo q p:=by
 unfold NextTo at *
 have e:q.1*p.2 - q.2*p.1=-(p.1*q.2 - p.2*q.1):=by grind
 rw [e]
 omega
def Adj:List (Int×Int)→Prop
 | []=>True
 | [_]=>True
 | a::b::r=>NextTo a b∧Adj (b::r)
theorem Adj.at:∀ {l:List (Int×Int)} {j:Nat} {p q:Int×Int},Adj l→l[j]?=some p→l[j+1]?=some q→NextTo p q
 | [],_,_,_,_,h,_=>by simp at h
 | [_],0,_,_,_,_,h=>by simp at h
 | [_],j+1,_,_,_,h,_=>by simp at h
 | a::b::r,0,p,q,hA,h1,h2=>by
  simp at h1 h2
  subst h1
  subst h2
  exact hA.1
 | a::b::r,j+1,p,q,hA,h1,h2=>Adj.at (l:=b::r) (j:=j) hA.2 (by simpa using h1) (by simpa using h2)
theorem Adj.join {a:Int×Int}{r:List (Int×Int)}:∀ {l:List (Int×Int)},Adj (l++[a])→Adj (a::r)→Adj (l++a::r)
 | [],_,h=>h
 | [b],h1,h=>⟨h1.1,h⟩
 | b::c::l,h1,h=>⟨h1.1,Adj.join (l:=c::l) h1.2 h⟩
theorem Adj.rev:∀ {l:List (Int×Int)},Adj l→Adj l.reverse
 | [],_=>trivial
 | [a],_=>trivial
 | a::b::r,h=>by
  have i:=Adj.rev (l:=b::r) h.2
  have e1:(b::r).reverse=r.reverse++[b]:=by simp
  have e2:(a::b::r).reverse=r.reverse++b::[a]:=by simp
  rw [e1] at i
  rw [e2]
  exact Adj.join i ⟨h.1.symm,trivial⟩
theorem bq8 (b l:Int×Int)(ks:List Int)(h:NextTo b l):Adj (ad0 b l ks):=by
 induction ks generalizing b l with
 | nil=>trivial
 | cons k r ih =>
  have hn:=h.step k
  have i:=ih l _ hn
  cases r with
  | nil=>exact⟨hn,trivial⟩
  | cons k' r'=>exact⟨hn,i⟩
theorem aD5:∀ (m:Nat) (x y:Int),y.toNat≤m→y < x→∀ k∈ae2 x y,1≤k
 | m,x,y,hm,hyx,k,hk=>by
  by_cases h:0 < y
  ·rw [ag0 h] at hk
   have r1:=emod_lt_of_pos x h
   rcases mem_cons.mp hk with rfl | hk
   ·exact (Int.le_ediv_iff_mul_le h).mpr (by omega)
   ·match m,hm with
    | m+1,hm=>exact aD5 m y (x % y) (by omega) r1 k hk
    | 0,hm=>omega
  ·rw [ag1 (by omega)] at hk
   cases hk
theorem bq9 (b l:Int×Int)(ks:List Int)(hb:0≤b.2)(hl:1≤l.2)(hk:∀ k∈ks,1≤k):∀ p∈ad0 b l ks,1≤p.2:=by
 induction ks generalizing b l with
 | nil =>
  intro p hp
  have:p=l:=by simpa [ad0] using hp
  rw [this]
  exact hl
 | cons k r ih =>
  intro p hp
  have hp':p=l∨p∈ad0 l (k*l.1+b.1,k*l.2+b.2) r:=by simpa [ad0] using hp
  rcases hp' with rfl | hp'
  ·exact hl
  ·have k1:=hk k (by simp)
   have kl:1*1≤k*l.2:=Int.mul_le_mul k1 hl (by decide) (by omega)
   exact ih l (k*l.1+b.1,k*l.2+b.2) (by omega) (by simp only;omega) (fun z hz=>hk z (by simp [hz])) p hp'
theorem aM4 (x y:Int)(hy:0≤y):∃ r,ad0 (0,1) (1,0) (ae2 x y)=(1,0)::r∧∀ p∈r,1≤p.2:=by
 by_cases h:0 < y
 ·rw [ag0 h]
  refine⟨_,rfl,?_⟩
  have r1:=emod_lt_of_pos x h
  refine bq9 _ _ _ (by decide) (by simp) (aD5 _ y (x % y) (le_refl _) r1)
 ·rw [ag1 (by omega)]
  exact⟨[],rfl,fun p hp=>by cases hp⟩
end Fr
namespace Fr
noncomputable section
theorem br0 {n:Nat}(hn:1≤n)(m:Mt)(u v:Int):mv n m (rsT n u v)=rsT n (u*m.a+v*m.c) (u*m.b+v*m.d):=by
 obtain⟨w1,e1⟩:=af0 hn u
 obtain⟨w2,e2⟩:=af0 hn v
 refine Prod.ext (congrArg toNat (aD2 ?_)) (congrArg toNat (aD2 ?_))
 ·show (n:Int)∣((((u % (n:Int)).toNat:Nat):Int)*m.a+(((v % (n:Int)).toNat:Nat):Int)*m.c) - (u*m.a+v*m.c)
  rw [e1,e2]
  exact⟨-(w1*m.a+w2*m.c),by grind⟩
 ·show (n:Int)∣((((u % (n:Int)).toNat:Nat):Int)*m.b+(((v % (n:Int)).toNat:Nat):Int)*m.d) - (u*m.b+v*m.d)
  rw [e1,e2]
  exact⟨-(w1*m.b+w2*m.d),by grind⟩
theorem aD6 {n:Nat}{p:Nat×Nat}{i:Nat}(h:ac0 n (syms n) p=some i):∃ s,(syms n)[i]?=some s∧p∈orb n s:=by
 unfold ac0 at h
 obtain⟨lt,hc,_⟩:=findIdx?_eq_some_iff_getElem.mp h
 exact⟨_,getElem?_eq_getElem lt,contains_iff_mem.mp hc⟩
theorem bf5 {n:Nat}(n1:1≤n)(n2:n≤48){m:Mt}(hd:gcd m.det n=1){u v:Int}{i:Nat}(h:ac0 n (syms n) (rsT n u v)=some i):ac0 n (syms n) (rsT n (u*m.a+v*m.c) (u*m.b+v*m.d))=some (at0 (leads n m) i):=by
 obtain⟨s,hs,ho⟩:=aD6 h
 obtain⟨s',hs',ho'⟩:=aO5 n1 n2 hd (mem_of_getElem? hs)
 have e1:at0 (leads n m) i=lead n m s:=aX1 hs
 rw [← br0 n1,e1]
 have k1:=bq0 n1 m ho
 have k2:=aO3 n1 n2 (aD1 n1 m s) ho'
 have k3:=aO3 n1 n2 (aD1 n1 m s) k1
 rw [← k3,k2]
 exact be6 n1 n2 hs'
theorem bf6 {n:Nat}(n1:1≤n)(n2:n≤48){u v:Int}{i:Nat}(h:ac0 n (syms n) (rsT n u v)=some i):ac0 n (syms n) (rsT n (-u) (-v))=some i:=by
 obtain⟨s,hs,ho⟩:=aD6 h
 have g:=aI5 h
 have g2:good n (rsT n (-u) (-v))=true:=by
  have:=ao0 n1 (a:=-1) (b:=0) (c:=0) (d:=-1) (by rw [show ((-1:Int)*-1 - 0*0)=1 from rfl,gcd_one_left]) g
  have e:=br0 n1 ⟨-1,0,0,-1⟩ u v
  have e3:mv n ⟨-1,0,0,-1⟩ (rsT n u v)=rsT n (((rsT n u v).1:Int)*-1+(rsT n u v).2*0) (((rsT n u v).1:Int)*0+(rsT n u v).2*-1):=rfl
  rw [← e3,e] at this
  have e4:u*(-1)+v*0=-u:=by omega
  have e5:u*0+v*(-1)=-v:=by omega
  rw [show (⟨-1,0,0,-1⟩:Mt).a=-1 from rfl,show (⟨-1,0,0,-1⟩:Mt).c=0 from rfl,show (⟨-1,0,0,-1⟩:Mt).b=0 from rfl,show (⟨-1,0,0,-1⟩:Mt).d=-1 from rfl,e4,e5] at this
  exact this
 have k:=(ar9 n1 n2 g hs).mp h
 refine (ar9 n1 n2 g2 hs).mpr ?_
 have e:-u*(s.2:Int) - -v*s.1=-(u*s.2 - v*s.1):=by grind
 rw [e]
 exact Int.dvd_neg.mpr k
def crs (y x:Int×Int):Int:=y.1*x.2 - x.1*y.2
def symN (n:Nat)(x y:Int×Int):Nat:=(ac0 n (syms n) (rsT n y.2 (crs y x*x.2))).getD 0
theorem aj8 {x y:Int×Int}(h:NextTo x y):crs y x=1∨crs y x=-1:=by
 unfold NextTo at h
 unfold crs
 rcases h with h | h
 ·exact .inr (by grind)
 ·exact .inl (by grind)
theorem ah3 {n:Nat}(n1:1≤n)(n2:n≤48){x y:Int×Int}(h:NextTo x y):ac0 n (syms n) (rsT n y.2 (crs y x*x.2))=some (symN n x y)∧symN n x y < (hvT n).length:=by
 have hc:crs y x*crs y x=1:=by rcases aj8 h with e | e <;> rw [e] <;> rfl
 obtain⟨i,hi⟩:=bJ7 n1 n2 (m:=⟨y.1,crs y x*x.1,y.2,crs y x*x.2⟩) (by
  show y.1*(crs y x*x.2) - crs y x*x.1*y.2=1
  rw [← hc]
  conv=>rhs;lhs;unfold crs
  unfold crs
  grind)
 have hi:ac0 n (syms n) (rsT n y.2 (crs y x*x.2))=some i:=hi
 have e:symN n x y=i:=by unfold symN;rw [hi];rfl
 rw [e]
 refine⟨hi,?_⟩
 obtain⟨s,hs,_⟩:=aD6 hi
 rw [aw9 n1 n2]
 exact (List.getElem?_eq_some_iff.mp hs).1
theorem aX8 (x y:Int×Int):crs x y=-crs y x:=by unfold crs;grind
theorem by3 {n:Nat}(n1:1≤n)(n2:n≤48){x y:Int×Int}(h:NextTo x y):symN n y x=at0 (hvT n) (symN n x y):=by
 obtain⟨a,b⟩:=ah3 n1 n2 h
 obtain⟨a',b'⟩:=ah3 n1 n2 h.symm
 have k:=bf5 n1 n2 (m:=hvX) (by rw [show hvX.det=1 from rfl,gcd_one_left]) a
 rw [(tabs n1 n2).1] at k
 have e1:y.2*hvX.a+crs y x*x.2*hvX.c=crs y x*x.2:=by show y.2*0+crs y x*x.2*1=_;omega
 have e2:y.2*hvX.b+crs y x*x.2*hvX.d=-y.2:=by show y.2*(-1)+crs y x*x.2*0=_;omega
 rw [e1,e2] at k
 rw [aX8 x y] at a'
 rcases aj8 h with c | c
 ·rw [c] at k a'
  have e3:(1:Int)*x.2=x.2:=Int.one_mul _
  have e4:-(1:Int)*y.2=-y.2:=by omega
  rw [e3] at k
  rw [e4] at a'
  rw [k] at a'
  exact (Option.some.inj a').symm
 ·rw [c] at k a'
  have k2:=bf6 n1 n2 k
  have e3:-((-1:Int)*x.2)=x.2:=by omega
  have e4:- -(1:Int)*y.2=y.2:=by omega
  have e5:- -y.2=y.2:=by omega
  have e6:-(-1:Int)*y.2=y.2:=by omega
  rw [e3,e5] at k2
  rw [e6] at a'
  rw [k2] at a'
  exact (Option.some.inj a').symm
def rE (n s j:Nat):Int:=(atR (ac5 n) s).getD j 0
def rdN (n:Nat):List (Int×Int)→List Nat
 | x::y::r=>symN n x y::rdN n (y::r)
 | _=>[]
def sumI (l:List Nat)(f:Nat→Int):Int:=(l.map f).sum
def ad4 (n:Nat)(w:List (Int×Int))(j:Nat):Int:=sumI (rdN n w) fun s=>rE n s j
theorem bf7:∀ {l m:List Int} (j:Nat),neg2 l m=true→l.getD j 0+m.getD j 0=0
 | [],[],_,_=>rfl
 | a::l,b::m,0,h=>by
  unfold neg2 at h
  rw [Bool.and_eq_true,beq_iff_eq] at h
  exact h.1
 | a::l,b::m,j+1,h=>by
  unfold neg2 at h
  rw [Bool.and_eq_true] at h
  exact bf7 j h.2
 | [],_::_,_,h=>by cases h
 | _::_,[],_,h=>by cases h
theorem aX9:∀ {l m r:List Int} (j:Nat),aG2 l m r=true→l.getD j 0+m.getD j 0+r.getD j 0=0
 | [],[],[],_,_=>rfl
 | a::l,b::m,c::r,0,h=>by
  unfold aG2 at h
  rw [Bool.and_eq_true,beq_iff_eq] at h
  exact h.1
 | a::l,b::m,c::r,j+1,h=>by
  unfold aG2 at h
  rw [Bool.and_eq_true] at h
  exact aX9 j h.2
 | [],[],_::_,_,h=>by cases h
 | [],_::_,_,_,h=>by cases h
 | _::_,[],_,_,h=>by cases h
 | _::_,_::_,[],_,h=>by cases h
theorem bK5 {n:Nat}(n1:1≤n)(n2:n≤48){s:Nat}(hs:s < (hvT n).length)(j:Nat):rE n s j+rE n (at0 (hvT n) s) j=0:=bf7 j ((al5 n1 n2).half s hs)
theorem by5 {n:Nat}(n1:1≤n)(n2:n≤48){s:Nat}(hs:s < (hvT n).length)(j:Nat):rE n s j+rE n (at0 (thT n) s) j+rE n (at0 (thT n) (at0 (thT n) s)) j=0:=aX9 j ((al5 n1 n2).third s hs)
theorem ai4 {n:Nat}(n1:1≤n)(n2:n≤48){x y:Int×Int}(h:NextTo x y)(j:Nat):rE n (symN n y x) j=-rE n (symN n x y) j:=by
 rw [by3 n1 n2 h]
 have:=bK5 n1 n2 (ah3 n1 n2 h).2 j
 omega
theorem ah0 (n:Nat)(x y:Int×Int)(r:List (Int×Int))(j:Nat):ad4 n (x::y::r) j=rE n (symN n x y) j+ad4 n (y::r) j:=rfl
theorem aD7 (n:Nat)(j:Nat)(a:Int×Int)(r:List (Int×Int)):∀ l:List (Int×Int),ad4 n (l++a::r) j=ad4 n (l++[a]) j+ad4 n (a::r) j
 | []=>by show ad4 n (a::r) j=0+_;omega
 | [x]=>by
  show ad4 n (x::a::r) j=ad4 n [x,a] j+_
  rw [ah0,ah0]
  show _=_+(0:Int)+_
  omega
 | x::y::l=>by
  have ih:=aD7 n j a r (y::l)
  show ad4 n (x::y::(l++a::r)) j=ad4 n (x::y::(l++[a])) j+_
  rw [ah0,ah0]
  have e1:y::(l++a::r)=(y::l)++a::r:=rfl
  have e2:y::(l++[a])=(y::l)++[a]:=rfl
  rw [e1,e2,ih]
  omega
theorem aY0 {n:Nat}(n1:1≤n)(n2:n≤48)(j:Nat):∀ w:List (Int×Int),Adj w→ad4 n w.reverse j=-ad4 n w j
 | [],_=>rfl
 | [x],_=>rfl
 | x::y::r,h=>by
  have ih:=aY0 n1 n2 j (y::r) h.2
  have e:(x::y::r).reverse=r.reverse++y::[x]:=by simp
  have e2:(y::r).reverse=r.reverse++[y]:=by simp
  rw [e,aD7,← e2,ih,ah0,ah0,ai4 n1 n2 h.1]
  show _+(_+(0:Int))=_
  omega
def stps (p:Int×Int):List (Int×Int):=ad0 (0,1) (1,0) (ae2 p.1 p.2)
theorem au0 (p:Int×Int):Adj (stps p):=bq8 _ _ _ (.inr rfl)
theorem aD8 (p:Int×Int)(h:0≤p.2):∃ r,stps p=(1,0)::r:=by
 obtain⟨r,e,_⟩:=aM4 p.1 p.2 h
 exact⟨r,e⟩
def wayP (p q:Int×Int):List (Int×Int):=(stps p).reverse++(stps q).tail
theorem aD9 (p q:Int×Int)(hp:0≤p.2)(hq:0≤q.2):∃ l r,stps p=(1,0)::l∧stps q=(1,0)::r∧wayP p q=l.reverse++(1,0)::r:=by
 obtain⟨l,e1⟩:=aD8 p hp
 obtain⟨r,e2⟩:=aD8 q hq
 refine⟨l,r,e1,e2,?_⟩
 unfold wayP
 rw [e1,e2]
 simp
theorem aI8 (p q:Int×Int)(hp:0≤p.2)(hq:0≤q.2):Adj (wayP p q):=by
 obtain⟨l,r,e1,e2,e⟩:=aD9 p q hp hq
 have a1:=au0 p
 have a2:=au0 q
 rw [e1] at a1
 rw [e2] at a2
 rw [e]
 refine Adj.join ?_ a2
 have:=a1.rev
 simpa using this
theorem by6 {n:Nat}(n1:1≤n)(n2:n≤48)(p q:Int×Int)(hp:0≤p.2)(hq:0≤q.2)(j:Nat):ad4 n (wayP p q) j=ad4 n (stps q) j - ad4 n (stps p) j:=by
 obtain⟨l,r,e1,e2,e⟩:=aD9 p q hp hq
 have a1:=au0 p
 rw [e1] at a1
 have h:=aY0 n1 n2 j ((1,0)::l) a1
 have e3:((1,0)::l:List (Int×Int)).reverse=l.reverse++[(1,0)]:=by simp
 rw [e3] at h
 rw [e,aD7,h,← e1,← e2]
 omega
theorem br1 {n:Nat}(n1:1≤n)(n2:n≤48):∀ {w:List (Int×Int)},Adj w→∀ s∈rdN n w,s < (hvT n).length
 | [],_,_,h=>by cases h
 | [_],_,_,h=>by cases h
 | x::y::r,a,s,h=>by
  rcases mem_cons.mp h with rfl | h
  ·exact (ah3 n1 n2 a.1).2
  ·exact br1 n1 n2 a.2 s h
theorem aO6 (n:Nat):∀ w:List (Int×Int),(rdN n w).length=w.length - 1
 | []=>rfl
 | [_]=>rfl
 | x::y::r=>by
  show (rdN n (y::r)).length+1=_
  rw [aO6 n (y::r)]
  simp
end
noncomputable section
def ngP (x:Int×Int):Int×Int:=(-x.1,-x.2)
theorem ao2 (n:Nat)(x y:Int×Int):symN n (ngP x) y=symN n x y:=by
 unfold symN
 have e:crs y (ngP x)*(ngP x).2=crs y x*x.2:=by unfold crs ngP;grind
 rw [e]
theorem aY1 {x y:Int×Int}(h:NextTo x y):NextTo (ngP x) y:=by
 unfold NextTo ngP at *
 rcases h with h | h
 ·exact .inr (by grind)
 ·exact .inl (by grind)
theorem au1 {x y:Int×Int}(h:NextTo x y):NextTo x (ngP y):=by
 unfold NextTo ngP at *
 rcases h with h | h
 ·exact .inr (by grind)
 ·exact .inl (by grind)
theorem as1 {n:Nat}(n1:1≤n)(n2:n≤48){x y:Int×Int}(h:NextTo x y):symN n x (ngP y)=symN n x y:=by
 obtain⟨a,_⟩:=ah3 n1 n2 h
 obtain⟨a',_⟩:=ah3 n1 n2 (au1 h)
 have k:=bf6 n1 n2 a
 have e:crs (ngP y) x*x.2=-(crs y x*x.2):=by unfold crs ngP;grind
 rw [e] at a'
 have e2:(ngP y).2=-y.2:=rfl
 rw [e2,k] at a'
 exact (Option.some.inj a').symm
theorem aS0 {n:Nat}(n1:1≤n)(n2:n≤48){x y:Int×Int}(h:crs y x=1):symN n y (x.1+y.1,x.2+y.2)=at0 (thT n) (symN n x y):=by
 have hN:NextTo x y:=by unfold NextTo;unfold crs at h;exact .inr (by grind)
 have hz:crs (x.1+y.1,x.2+y.2) y=-1:=by unfold crs at *;grind
 have hN2:NextTo y (x.1+y.1,x.2+y.2):=by unfold NextTo;unfold crs at hz;exact .inl (by grind)
 obtain⟨a,_⟩:=ah3 n1 n2 hN
 obtain⟨a',_⟩:=ah3 n1 n2 hN2
 have k:=bf5 n1 n2 (m:=thX) (by rw [show thX.det=1 from rfl,gcd_one_left]) a
 rw [(tabs n1 n2).2.1] at k
 have e1:y.2*thX.a+crs y x*x.2*thX.c=x.2+y.2:=by show y.2*1+crs y x*x.2*1=_;rw [h];omega
 have e2:y.2*thX.b+crs y x*x.2*thX.d=-y.2:=by show y.2*(-1)+crs y x*x.2*0=_;omega
 rw [e1,e2] at k
 have e3:crs (x.1+y.1,x.2+y.2) y*y.2=-y.2:=by rw [hz];omega
 rw [e3] at a'
 have a':ac0 n (syms n) (rsT n (x.2+y.2) (-y.2))=some (symN n y (x.1+y.1,x.2+y.2)):=a'
 rw [k] at a'
 exact (Option.some.inj a').symm
theorem tri1 {n:Nat}(n1:1≤n)(n2:n≤48){x y:Int×Int}(h:crs y x=1)(j:Nat):rE n (symN n x y) j+rE n (symN n y (x.1+y.1,x.2+y.2)) j+rE n (symN n (x.1+y.1,x.2+y.2) x) j=0:=by
 have hN:NextTo x y:=by unfold NextTo;unfold crs at h;exact .inr (by grind)
 have e1:=aS0 n1 n2 h
 have h2:crs (x.1+y.1,x.2+y.2) (ngP y)=1:=by unfold crs ngP at *;grind
 have e2:=aS0 n1 n2 h2
 have hN2:NextTo (ngP y) (x.1+y.1,x.2+y.2):=by unfold NextTo;unfold crs at h2;exact .inr (by grind)
 have hx:((ngP y).1+(x.1+y.1),(ngP y).2+(x.2+y.2))=x:=by
  unfold ngP
  refine Prod.ext ?_ ?_
  ·show -y.1+(x.1+y.1)=x.1;omega
  ·show -y.2+(x.2+y.2)=x.2;omega
 have e3:symN n (ngP y) (x.1+y.1,x.2+y.2)=symN n y (x.1+y.1,x.2+y.2):=ao2 n y _
 rw [e3,e1] at e2
 have e2:symN n (x.1+y.1,x.2+y.2) ((ngP y).1+(x.1+y.1),(ngP y).2+(x.2+y.2))=at0 (thT n) (at0 (thT n) (symN n x y)):=e2
 rw [hx] at e2
 rw [e1,e2]
 exact by5 n1 n2 (ah3 n1 n2 hN).2 j
theorem au2 {x y:Int×Int}{e:Int}(h:NextTo x y):NextTo x (y.1+e*x.1,y.2+e*x.2):=by
 unfold NextTo at *
 rcases h with h | h
 ·exact .inl (by grind)
 ·exact .inr (by grind)
theorem aE0 {x y:Int×Int}{e:Int}(he:e=1∨e=-1)(h:NextTo x y):NextTo y (y.1+e*x.1,y.2+e*x.2):=by
 unfold NextTo at *
 rcases he with rfl | rfl <;> rcases h with h | h
 ·exact .inr (by grind)
 ·exact .inl (by grind)
 ·exact .inl (by grind)
 ·exact .inr (by grind)
theorem triR {n:Nat}(n1:1≤n)(n2:n≤48){x y:Int×Int}(h:NextTo x y){e:Int}(he:e=1∨e=-1)(j:Nat):rE n (symN n x y) j+rE n (symN n y (y.1+e*x.1,y.2+e*x.2)) j+rE n (symN n (y.1+e*x.1,y.2+e*x.2) x) j=0:=by
 have key:∀ {x y:Int×Int},NextTo x y→rE n (symN n x y) j+rE n (symN n y (y.1+crs y x*x.1,y.2+crs y x*x.2)) j+rE n (symN n (y.1+crs y x*x.1,y.2+crs y x*x.2) x) j=0:=by
  intro x y h
  rcases aj8 h with c | c
  ·have t:=tri1 n1 n2 c j
   have e1:(x.1+y.1,x.2+y.2)=(y.1+crs y x*x.1,y.2+crs y x*x.2):=by rw [c];refine Prod.ext ?_ ?_ <;> (dsimp only;omega)
   rw [e1] at t
   exact t
  ·have c2:crs y (ngP x)=1:=by unfold crs ngP at *;grind
   have t:=tri1 n1 n2 c2 j
   have e1:((ngP x).1+y.1,(ngP x).2+y.2)=(y.1+crs y x*x.1,y.2+crs y x*x.2):=by rw [c];unfold ngP;refine Prod.ext ?_ ?_ <;> (dsimp only;omega)
   rw [e1,ao2] at t
   have hN:NextTo (y.1+crs y x*x.1,y.2+crs y x*x.2) x:=(au2 h).symm
   rw [as1 n1 n2 hN] at t
   exact t
 by_cases c:e=crs y x
 ·rw [c]
  exact key h
 ·have c':crs x y=-crs y x:=aX8 x y
  have t:=key h.symm
  have hz:NextTo y (x.1+crs x y*y.1,x.2+crs x y*y.2):=au2 h.symm
  have hz2:NextTo x (x.1+crs x y*y.1,x.2+crs x y*y.2):=aE0 (by rcases aj8 h.symm with z | z <;> omega) h.symm
  have a1:=ai4 n1 n2 h j
  have a2:=ai4 n1 n2 hz j
  have a3:=ai4 n1 n2 hz2 j
  have ez:(x.1+crs x y*y.1,x.2+crs x y*y.2)=(y.1+e*x.1,y.2+e*x.2)∨(x.1+crs x y*y.1,x.2+crs x y*y.2)=ngP (y.1+e*x.1,y.2+e*x.2):=by
   rcases aj8 h with z | z
   ·have e1:e=-1:=by rw [z] at c;omega
    right
    rw [c',z,e1]
    unfold ngP
    refine Prod.ext ?_ ?_ <;> (dsimp only;omega)
   ·have e1:e=1:=by rw [z] at c;omega
    left
    rw [c',z,e1]
    refine Prod.ext ?_ ?_ <;> (dsimp only;omega)
  have f1:NextTo y (y.1+e*x.1,y.2+e*x.2):=aE0 he h
  have f2:NextTo x (y.1+e*x.1,y.2+e*x.2):=au2 h
  rcases ez with ez | ez
  ·rw [ez] at t a2 a3
   omega
  ·rw [ez] at t a2 a3
   rw [as1 n1 n2 f2,ao2] at t a3
   rw [as1 n1 n2 f1,ao2] at a2
   have b2:=ai4 n1 n2 f1 j
   have b3:=ai4 n1 n2 f2 j
   omega
end
structure IsShort (t b p q:Int):Prop where
 ex:∃ g:Int,g≠0∧t=g*p∧b=g*q
 co:gcd p q=1
 sg:0 < q∨(q=0∧p=1)
 bp:p.natAbs≤t.natAbs
 bq:q.natAbs≤b.natAbs
def shS (t b:Int):Int:=if b < 0∨(b=0∧t < 0) then 0 - (gcd t b:Int) else (gcd t b:Int)
theorem aY2 {t b:Int}(h:t≠0∨b≠0):0 < gcd t b:=by
 rcases Nat.eq_zero_or_pos (gcd t b) with e | e
 ·have h1:=Int.gcd_eq_zero_iff.mp e
  rcases h with h | h
  ·exact absurd h1.1 h
  ·exact absurd h1.2 h
 ·exact e
theorem aj9 {g p:Int}(h:g≠0):p.natAbs≤(g*p).natAbs:=by
 rw [natAbs_mul]
 exact Nat.le_mul_of_pos_left _ (by omega)
theorem bK6 {t b:Int}(h:t≠0∨b≠0):IsShort t b (t.fdiv (shS t b)) (b.fdiv (shS t b)):=by
 have gp:=aY2 h
 obtain⟨p0,e1⟩:=Int.gcd_dvd_left (a:=t) (b:=b)
 obtain⟨q0,e2⟩:=Int.gcd_dvd_right (a:=t) (b:=b)
 have co:gcd p0 q0=1:=by
  have e:gcd ((gcd t b:Int)*p0) ((gcd t b:Int)*q0)=gcd t b:=by rw [← e1,← e2]
  rw [Int.gcd_mul_left] at e
  have e3:gcd t b*gcd p0 q0=gcd t b*1:=by simpa using e
  exact Nat.eq_of_mul_eq_mul_left gp e3
 generalize hg:((gcd t b:Nat):Int)=g at e1 e2
 have g0:0 < g:=by omega
 have gz:g≠0:=by omega
 have sq:0 < b↔0 < q0:=by
  rw [e2]
  exact⟨fun z=>Int.pos_of_mul_pos_right z (by omega) ,fun z=>Int.mul_pos g0 z⟩
 have zq:b=0↔q0=0:=by
  rw [e2]
  exact⟨fun z=>by rcases Int.mul_eq_zero.mp z with z | z <;> omega,fun z=>by rw [z,mul_zero]⟩
 have sp:0 < t↔0 < p0:=by
  rw [e1]
  exact⟨fun z=>Int.pos_of_mul_pos_right z (by omega),fun z=>Int.mul_pos g0 z⟩
 have zp:t=0↔p0=0:=by
  rw [e1]
  exact⟨fun z=>by rcases Int.mul_eq_zero.mp z with z | z <;> omega,fun z=>by rw [z,mul_zero]⟩
 have one:q0=0→p0.natAbs=1:=fun z=>by
  rw [z,gcd_zero_right] at co
  exact co
 unfold shS
 rw [hg]
 by_cases c:b < 0∨(b=0∧t < 0)
 ·rw [if_pos c]
  have f1:t.fdiv (0 - g)=-p0:=by
   have:t=(0 - g)*-p0:=by rw [e1];grind
   rw [this]
   exact Int.mul_fdiv_cancel_left _ (by omega)
  have f2:b.fdiv (0 - g)=-q0:=by
   have:b=(0 - g)*-q0:=by rw [e2];grind
   rw [this]
   exact Int.mul_fdiv_cancel_left _ (by omega)
  rw [f1,f2]
  refine⟨⟨0 - g,by omega,by rw [e1];grind,by rw [e2];grind⟩,by rw [Int.gcd_neg,Int.neg_gcd];exact co,?_,?_,?_⟩
  ·omega
  ·rw [natAbs_neg,e1];exact aj9 gz
  ·rw [natAbs_neg,e2];exact aj9 gz
 ·rw [if_neg c]
  have f1:t.fdiv g=p0:=by
   rw [e1]
   exact Int.mul_fdiv_cancel_left _ gz
  have f2:b.fdiv g=q0:=by
   rw [e2]
   exact Int.mul_fdiv_cancel_left _ gz
  rw [f1,f2]
  refine⟨⟨g,gz,e1,e2⟩,co,?_,by rw [e1];exact aj9 gz,by rw [e2];exact aj9 gz⟩
  omega
theorem aM5 {t b p q:Int}(h:IsShort t b p q)(co:gcd t b=1):(p=t∧q=b)∨(p=-t∧q=-b):=by
 obtain⟨g,g0,e1,e2⟩:=h.ex
 have d:g∣((gcd t b:Nat):Int):=Int.dvd_coe_gcd ⟨p,e1⟩ ⟨q,e2⟩
 rw [co] at d
 have:g.natAbs=1:=by
  have:=Int.natAbs_dvd_natAbs.mpr d
  exact dvd_one.mp (by simpa using this)
 rcases natAbs_eq g with e | e
 ·rw [this] at e
  left
  subst e
  constructor <;> omega
 ·rw [this] at e
  right
  subst e
  constructor <;> omega
theorem bezI (a b:Int):∃ x y:Int,x*a+y*b=(gcd a b:Nat):=by
 obtain⟨x,y,e⟩:=bez a.natAbs b.natAbs
 have h:((Nat.gcd a.natAbs b.natAbs:Nat):Int)=(gcd a b:Nat):=rfl
 rw [h] at e
 rcases natAbs_eq a with ha | ha <;> rcases natAbs_eq b with hb | hb
 ·exact⟨x,y,by rw [← e,← ha,← hb]⟩
 ·exact⟨x,-y,by rw [← e,← ha];(conv=>lhs;rw [hb]);grind⟩
 ·exact⟨-x,y,by rw [← e,← hb];(conv=>lhs;rw [ha]);grind⟩
 ·exact⟨-x,-y,by rw [← e];(conv=>lhs;rw [ha,hb]);grind⟩
theorem aG4 {a b x y:Int}(h:x*a+y*b=1):gcd a b=1:=by
 have h1:((gcd a b:Nat):Int)∣1:=by
  rw [← h]
  exact dvd_add (Int.dvd_mul_of_dvd_right (Int.gcd_dvd_left ..)) (Int.dvd_mul_of_dvd_right (Int.gcd_dvd_right ..))
 have:=natCast_dvd_natCast.mp (show ((gcd a b:Nat):Int)∣((1:Nat):Int) from h1)
 exact dvd_one.mp this
theorem bj3 {a b:Int}(h:gcd a b=1):∃ x y:Int,x*a+y*b=1:=by
 obtain⟨x,y,e⟩:=bezI a b
 rw [h] at e
 exact⟨x,y,e⟩
noncomputable section
def IsP (x:Int×Int):Prop:=(x.1=1∧x.2=0)∨0 < x.2
theorem IsP.nn {x:Int×Int}(h:IsP x):0≤x.2:=by rcases h with ⟨_,h⟩ | h <;> omega
def av3 (y p:Int×Int):Prop:=crs y p=1∧0 < p.2∧p.2 < y.2
open Classical in
noncomputable def par (y:Int×Int):Int×Int:=if h:∃ p,av3 y p then Classical.choose h else (1,0)
theorem br2 {y p:Int×Int}(h:av3 y p):av3 y (par y):=by
 unfold par
 rw [dif_pos ⟨p,h⟩]
 exact Classical.choose_spec (⟨p,h⟩:∃ p,av3 y p)
theorem bU2 {y p:Int×Int}(h:av3 y p):par y=p:=by
 obtain⟨a1,a2,a3⟩:=br2 h
 obtain⟨b1,b2,b3⟩:=h
 generalize par y=q at *
 unfold crs at a1 b1
 have hy:0 < y.2:=by omega
 have e1:y.1*(q.2 - p.2)=(q.1 - p.1)*y.2:=by grind
 have d:y.2∣y.1*(q.2 - p.2):=⟨q.1 - p.1,by rw [e1];grind⟩
 have d2:y.2∣(q.2 - p.2):=by
  obtain⟨t,ht⟩:=d
  refine⟨p.2*0+(t*p.2 - p.1*(q.2 - p.2)),?_⟩
  have:(q.2 - p.2)=(y.1*p.2 - p.1*y.2)*(q.2 - p.2):=by rw [b1];omega
  rw [this]
  have h2:(y.1*p.2 - p.1*y.2)*(q.2 - p.2)=p.2*(y.1*(q.2 - p.2)) - p.1*y.2*(q.2 - p.2):=by grind
  rw [h2,ht]
  grind
 have z:q.2 - p.2=0:=by
  obtain⟨t,ht⟩:=d2
  rcases Int.lt_trichotomy t 0 with c | c | c
  ·have:y.2*t≤y.2*-1:=Int.mul_le_mul_of_nonneg_left (by omega) (by omega)
   omega
  ·rw [ht,c];omega
  ·have:y.2*1≤y.2*t:=Int.mul_le_mul_of_nonneg_left (by omega) (by omega)
   omega
 rw [z] at e1
 have e2:(q.1 - p.1)*y.2=0:=by rw [← e1];omega
 have e3:q.1 - p.1=0:=by
  rcases Int.mul_eq_zero.mp e2 with h | h
  ·exact h
  ·omega
 exact Prod.ext (by omega) (by omega)
noncomputable def potF (n j:Nat):Nat→Int×Int→Int
 | 0,_=>0
 | m+1,y=>if y.2≤0 then 0 else if y.2=1 then rE n (symN n (1,0) y) j else potF n j m (par y)+rE n (symN n (par y) y) j
noncomputable def pot (n j:Nat)(y:Int×Int):Int:=potF n j y.2.toNat y
theorem bU3 {y:Int×Int}(h2:2≤y.2)(co:gcd y.1 y.2=1):∃ p,av3 y p:=by
 obtain⟨s,t,e⟩:=bj3 co
 have m0:=emod_nonneg s (show y.2≠0 by omega)
 have m1:=emod_lt_of_pos s (show 0 < y.2 by omega)
 have k:=emod_add_mul_ediv s y.2
 generalize hq:s / y.2=q at k
 generalize hr:s % y.2=r at *
 refine⟨(-(t+q*y.1),r),?_,?_,m1⟩
 ·unfold crs
  show y.1*r - -(t+q*y.1)*y.2=1
  have:r=s - y.2*q:=by omega
  rw [this]
  grind
 ·show 0 < r
  rcases (show r=0∨0 < r by omega) with z | z
  ·exfalso
   rw [z] at k
   have h3:y.2∣1:=⟨q*y.1+t,by
    have:s=y.2*q:=by omega
    rw [this] at e
    grind⟩
   have:=Int.le_of_dvd (by decide) h3
   omega
  ·exact z
theorem aO7 {n j:Nat}:∀ (m:Nat) (y:Int×Int),y.2.toNat≤m→gcd y.1 y.2=1→potF n j m y=pot n j y
 | 0,y,h,_=>by
  unfold pot
  have:y.2.toNat=0:=by omega
  rw [this]
 | m+1,y,h,co=>by
  unfold pot
  by_cases c0:y.2≤0
  ·have e:y.2.toNat=0:=by omega
   rw [e]
   show (if y.2≤0 then 0 else _)=(0:Int)
   rw [if_pos c0]
  ·obtain⟨k,hk⟩:∃ k,y.2.toNat=k+1:=⟨y.2.toNat - 1,by omega⟩
   rw [hk]
   show (if y.2≤0 then (0:Int) else if y.2=1 then rE n (symN n (1,0) y) j else potF n j m (par y)+rE n (symN n (par y) y) j)=(if y.2≤0 then 0 else if y.2=1 then rE n (symN n (1,0) y) j else potF n j k (par y)+rE n (symN n (par y) y) j)
   rw [if_neg c0,if_neg c0]
   by_cases c1:y.2=1
   ·rw [if_pos c1,if_pos c1]
   ·rw [if_neg c1,if_neg c1]
    obtain⟨p,hp⟩:=bU3 (y:=y) (by omega) co
    obtain⟨p1,p2,p3⟩:=br2 hp
    have cp:gcd (par y).1 (par y).2=1:=by
     unfold crs at p1
     exact aG4 (x:=-y.2) (y:=y.1) (by grind)
    rw [aO7 m (par y) (by omega) cp,aO7 k (par y) (by omega) cp]
theorem aY3 {n j:Nat}{y:Int×Int}(h:y.2≤0):pot n j y=0:=by
 unfold pot
 have:y.2.toNat=0:=by omega
 rw [this]
 rfl
theorem aO8 {n j:Nat}{y:Int×Int}(h:y.2=1):pot n j y=rE n (symN n (1,0) y) j:=by
 unfold pot
 have:y.2.toNat=1:=by omega
 rw [this]
 show (if y.2≤0 then (0:Int) else if y.2=1 then _ else _)=_
 rw [if_neg (by omega),if_pos h]
theorem bf8 {n j:Nat}{y p:Int×Int}(h:av3 y p):pot n j y=pot n j p+rE n (symN n p y) j:=by
 have e:=bU2 h
 obtain⟨p1,p2,p3⟩:=h
 have cp:gcd p.1 p.2=1:=by
  unfold crs at p1
  exact aG4 (x:=-y.2) (y:=y.1) (by grind)
 obtain⟨k,hk⟩:∃ k,y.2.toNat=k+1:=⟨y.2.toNat - 1,by omega⟩
 conv=>lhs;unfold pot
 rw [hk]
 show (if y.2≤0 then (0:Int) else if y.2=1 then _ else potF n j k (par y)+rE n (symN n (par y) y) j)=_
 rw [if_neg (by omega),if_neg (by omega),e,aO7 k p (by omega) cp]
theorem bf9 {x y:Int×Int}(h:NextTo x y):gcd x.1 x.2=1:=by
 unfold NextTo at h
 rcases h with h | h
 ·exact aG4 (x:=y.2) (y:=-y.1) (by grind)
 ·exact aG4 (x:=-y.2) (y:=y.1) (by grind)
theorem by7 {n:Nat}(n1:1≤n)(n2:n≤48)(j:Nat):∀ (m:Nat) (x y:Int×Int),(x.2+y.2).toNat≤m→IsP x→IsP y→NextTo x y→pot n j y - pot n j x=rE n (symN n x y) j:=by
 intro m
 induction m with
 | zero =>
  intro x y hm hx hy h
  have hx0:=hx.nn
  have hy0:=hy.nn
  have e1:x.2=0:=by omega
  have e2:y.2=0:=by omega
  unfold NextTo at h
  rw [e1,e2] at h
  omega
 | succ m ih =>
  have half:∀ x y:Int×Int,(x.2+y.2).toNat≤m+1→IsP x→IsP y→NextTo x y→x.2≤y.2→pot n j y - pot n j x=rE n (symN n x y) j:=by
   intro x y hm hx hy h le
   have hx0:=hx.nn
   have cr:crs y x=1∨crs y x=-1:=aj8 h
   rcases hy with ⟨y1,y2⟩ | hy
   ·have e1:x.2=0:=by omega
    unfold NextTo at h
    rw [e1,y2] at h
    omega
   rcases hx with ⟨x1,x2⟩ | hx
   ·have ex:x=(1,0):=Prod.ext x1 x2
    have ey:y.2=1:=by
     unfold NextTo at h
     rw [x1,x2] at h
     omega
    rw [aO8 ey,ex,aY3 (Int.le_refl 0)]
    omega
   by_cases c1:y.2=1
   ·have ex:x.2=1:=by omega
    rw [aO8 c1,aO8 ex]
    have hk:y.1 - x.1=1∨y.1 - x.1=-1:=by
     unfold crs at cr
     rw [c1,ex] at cr
     omega
    have t:=triR n1 n2 h (e:=-1) (.inr rfl) j
    have ez:(y.1+-1*x.1,y.2+-1*x.2)=(1,0)∨(y.1+-1*x.1,y.2+-1*x.2)=ngP (1,0):=by
     rcases hk with z | z
     ·left
      refine Prod.ext ?_ ?_ <;> (dsimp only;omega)
     ·right
      refine Prod.ext ?_ ?_
      ·show y.1+-1*x.1=-1;omega
      ·show y.2+-1*x.2=-0;omega
    have n0:NextTo (1,0) y:=by
     unfold NextTo
     left
     show 1*y.2 - 0*y.1=1
     omega
    have n3:NextTo (1,0) x:=by
     unfold NextTo
     left
     show 1*x.2 - 0*x.1=1
     omega
    have s1:=ai4 n1 n2 n0 j
    rcases ez with ez | ez
    ·rw [ez] at t
     omega
    ·rw [ez,as1 n1 n2 n0.symm,ao2] at t
     omega
   ·have y2:2≤y.2:=by omega
    have lt:x.2 < y.2:=by
     rcases (show x.2=y.2∨x.2 < y.2 by omega) with z | z
     ·exfalso
      have hd:y.2∣1:=by
       unfold crs at cr
       rw [z] at cr
       rcases cr with c | c
       ·exact⟨y.1 - x.1,by grind⟩
       ·exact⟨x.1 - y.1,by grind⟩
      have:=Int.le_of_dvd (by decide) hd
      omega
     ·exact z
    rcases cr with c | c
    ·rw [bf8 ⟨c,hx,lt⟩]
     omega
    ·
     have pz:av3 y (y.1+-1*x.1,y.2+-1*x.2):=by
      refine⟨?_,?_,?_⟩
      ·unfold crs at *
       show y.1*(y.2+-1*x.2) - (y.1+-1*x.1)*y.2=1
       grind
      ·show 0 < y.2+-1*x.2;omega
      ·show y.2+-1*x.2 < y.2;omega
     have t:=triR n1 n2 h (e:=-1) (.inr rfl) j
     have nz:NextTo x (y.1+-1*x.1,y.2+-1*x.2):=au2 h
     have nz2:NextTo y (y.1+-1*x.1,y.2+-1*x.2):=aE0 (.inr rfl) h
     have i:=ih x (y.1+-1*x.1,y.2+-1*x.2) (by show (x.2+(y.2+-1*x.2)).toNat≤m;omega) (.inr hx) (.inr (by show 0 < y.2+-1*x.2;omega)) nz
     have s1:=ai4 n1 n2 nz j
     have s2:=ai4 n1 n2 nz2 j
     rw [bf8 pz]
     omega
  intro x y hm hx hy h
  rcases (show x.2≤y.2∨y.2≤x.2 by omega) with c | c
  ·exact half x y hm hx hy h c
  ·have:=half y x (by rw [Int.add_comm];exact hm) hy hx h.symm c
   have s:=ai4 n1 n2 h j
   omega
theorem aA2 {n:Nat}(n1:1≤n)(n2:n≤48)(j:Nat):∀ (w:List (Int×Int)) (a b:Int×Int),Adj w→(∀ x∈w,IsP x)→w.head?=some a→w.getLast?=some b→ad4 n w j=pot n j b - pot n j a
 | [],_,_,_,_,h,_=>by cases h
 | [x],a,b,_,_,h1,h2=>by
  cases h1
  have e:x=b:=by simpa using h2
  subst e
  show (0:Int)=_
  omega
 | x::y::r,a,b,h,hp,h1,h2=>by
  cases h1
  have ih:=aA2 n1 n2 j (y::r) y b h.2 (fun z hz=>hp z (mem_cons_of_mem _ hz)) rfl (by rw [List.getLast?_cons_cons] at h2;exact h2)
  have p:=by7 n1 n2 j _ x y (le_refl _) (hp x mem_cons_self) (hp y (mem_cons_of_mem _ mem_cons_self)) h.1
  rw [ah0,ih]
  omega
theorem by8 (p:Int×Int)(h:0≤p.2):∀ x∈stps p,IsP x:=fun x hx=>by
 obtain⟨r,e,low⟩:=aM4 p.1 p.2 h
 have e:stps p=(1,0)::r:=e
 rw [e] at hx
 rcases mem_cons.mp hx with rfl | hx
 ·exact .inl ⟨rfl,rfl⟩
 ·exact .inr (by have:=low x hx;omega)
theorem aS1 {n:Nat}(n1:1≤n)(n2:n≤48)(j:Nat){p:Int×Int}(h:IsSpot p.1 p.2):ad4 n (stps p) j=pot n j p:=by
 obtain⟨r,e⟩:=aD8 p h.nn
 have l:=aq1 p.2.toNat p.1 p.2 (0,1) (1,0) (le_refl _) h.nn (fun z=>by rcases h with ⟨a,_⟩ | ⟨a,_⟩ <;> omega) h.gcd
 have l:(stps p).getLast?=some p:=by
  refine Eq.trans l (congrArg some (Prod.ext ?_ ?_))
  ·show 1*p.1+0*p.2=p.1;omega
  ·show 0*p.1+1*p.2=p.2;omega
 rw [aA2 n1 n2 j (stps p) (1,0) p (au0 p) (by8 p h.nn) (by rw [e];rfl) l,aY3 (y:=(1,0)) (Int.le_refl 0)]
 omega
theorem aS2 {n:Nat}(n1:1≤n)(n2:n≤48)(j:Nat){p q:Int×Int}(hp:IsSpot p.1 p.2)(hq:IsSpot q.1 q.2):ad4 n (wayP p q) j=pot n j q - pot n j p:=by
 rw [by6 n1 n2 p q hp.nn hq.nn,aS1 n1 n2 j hp,aS1 n1 n2 j hq]
end
noncomputable section
def actP (g:Mt)(x:Int×Int):Int×Int:=(g.a*x.1+g.b*x.2,g.c*x.1+g.d*x.2)
theorem bg0 (g:Mt)(hd:g.det=1)(x y:Int×Int):crs (actP g y) (actP g x)=crs y x:=by
 have hd:g.a*g.d - g.b*g.c=1:=hd
 unfold crs actP
 have e:(g.a*y.1+g.b*y.2)*(g.c*x.1+g.d*x.2) - (g.a*x.1+g.b*x.2)*(g.c*y.1+g.d*y.2)=(g.a*g.d - g.b*g.c)*(y.1*x.2 - x.1*y.2):=by grind
 show (g.a*y.1+g.b*y.2)*(g.c*x.1+g.d*x.2) - (g.a*x.1+g.b*x.2)*(g.c*y.1+g.d*y.2)=_
 rw [e,hd,Int.one_mul]
theorem bb2 {x y:Int×Int}(h:crs y x=1∨crs y x=-1):NextTo x y:=by
 unfold crs at h
 unfold NextTo
 rcases h with h | h
 ·exact .inr (by grind)
 ·exact .inl (by grind)
theorem aI9 {g:Mt}(hd:g.det=1){x y:Int×Int}(h:NextTo x y):NextTo (actP g x) (actP g y):=bb2 (by rw [bg0 g hd];exact aj8 h)
theorem bK7 {n:Nat}(n1:1≤n)(n2:n≤48){g:Mt}(hd:g.det=1)(hc:(n:Int)∣g.c){x y:Int×Int}(h:NextTo x y):symN n (actP g x) (actP g y)=symN n x y:=by
 obtain⟨a,_⟩:=ah3 n1 n2 h
 obtain⟨a',_⟩:=ah3 n1 n2 (aI9 hd h)
 obtain⟨s,hs,_⟩:=aD6 a
 have k:=(ar9 n1 n2 (aI5 a) hs).mp a
 have k':=(ar9 n1 n2 (aI5 a') hs).mpr (by
  rw [bg0 g hd]
  obtain⟨t,ht⟩:=k
  obtain⟨u,hu⟩:=hc
  refine⟨g.d*t+u*(y.1*s.2 - crs y x*x.1*s.1),?_⟩
  show (g.c*y.1+g.d*y.2)*(s.2:Int) - crs y x*(g.c*x.1+g.d*x.2)*s.1=_
  have e:(g.c*y.1+g.d*y.2)*(s.2:Int) - crs y x*(g.c*x.1+g.d*x.2)*s.1=g.d*(y.2*s.2 - crs y x*x.2*s.1)+g.c*(y.1*s.2 - crs y x*x.1*s.1):=by grind
  rw [e,ht,hu]
  grind)
 rw [a'] at k'
 exact Option.some.inj k'
def nzP (x:Int×Int):Int×Int:=if 0 < x.2∨(x.2=0∧0 < x.1) then x else ngP x
theorem aG5 (x:Int×Int):nzP x=x∨nzP x=ngP x:=by
 unfold nzP
 split
 ·exact .inl rfl
 ·exact .inr rfl
theorem bU4 {x:Int×Int}(co:gcd x.1 x.2=1):IsP (nzP x):=by
 unfold nzP
 split
 ·rename_i c
  rcases c with c | ⟨c,c2⟩
  ·exact .inr c
  ·left
   rw [c,gcd_zero_right] at co
   exact⟨by omega,c⟩
 ·rename_i c
  unfold ngP
  rcases (show x.2 < 0∨x.2=0 by omega) with z | z
  ·right
   show 0 < -x.2
   omega
  ·left
   rw [z,gcd_zero_right] at co
   exact⟨by show -x.1=1;omega,by show -x.2=0;omega⟩
theorem bK8 {x y:Int×Int}(h:NextTo x y):NextTo (nzP x) (nzP y):=by
 rcases aG5 x with e | e <;> rcases aG5 y with e' | e' <;> rw [e,e']
 ·exact h
 ·exact au1 h
 ·exact aY1 h
 ·exact aY1 (au1 h)
theorem bU5 {n:Nat}(n1:1≤n)(n2:n≤48){x y:Int×Int}(h:NextTo x y):symN n (nzP x) (nzP y)=symN n x y:=by
 rcases aG5 x with e | e <;> rcases aG5 y with e' | e' <;> rw [e,e']
 ·exact as1 n1 n2 h
 ·exact ao2 n x y
 ·rw [ao2,as1 n1 n2 h]
theorem aY4 {n:Nat}(n1:1≤n)(n2:n≤48){g:Mt}(hd:g.det=1)(hc:(n:Int)∣g.c)(j:Nat):∀ w:List (Int×Int),Adj w→ad4 n (w.map fun x=>nzP (actP g x)) j=ad4 n w j
 | [],_=>rfl
 | [_],_=>rfl
 | x::y::r,h=>by
  have ih:=aY4 n1 n2 hd hc j (y::r) h.2
  show ad4 n (nzP (actP g x)::nzP (actP g y)::(r.map fun x=>nzP (actP g x))) j=_
  rw [ah0,ah0,bU5 n1 n2 (aI9 hd h.1),bK7 n1 n2 hd hc h.1]
  show _+ad4 n ((y::r).map fun x=>nzP (actP g x)) j=_
  rw [ih]
theorem bg1 {g:Mt}(hd:g.det=1):∀ w:List (Int×Int),Adj w→Adj (w.map fun x=>nzP (actP g x))
 | [],_=>trivial
 | [_],_=>trivial
 | x::y::r,h=>⟨bK8 (aI9 hd h.1),bg1 hd (y::r) h.2⟩
theorem br3 {g:Mt}(hd:g.det=1){x:Int×Int}(co:gcd x.1 x.2=1):gcd (actP g x).1 (actP g x).2=1:=by
 obtain⟨s,t,e⟩:=bj3 co
 have hd:g.a*g.d - g.b*g.c=1:=hd
 refine aG4 (x:=s*g.d - t*g.c) (y:=t*g.a - s*g.b) ?_
 show (s*g.d - t*g.c)*(g.a*x.1+g.b*x.2)+(t*g.a - s*g.b)*(g.c*x.1+g.d*x.2)=1
 have e2:(s*g.d - t*g.c)*(g.a*x.1+g.b*x.2)+(t*g.a - s*g.b)*(g.c*x.1+g.d*x.2)=(g.a*g.d - g.b*g.c)*(s*x.1+t*x.2):=by grind
 rw [e2,hd,e]
 rfl
theorem br4:∀ {w:List (Int×Int)},Adj w→∀ a,w.getLast?=some a→gcd a.1 a.2=1→∀ x∈w,gcd x.1 x.2=1
 | [],_,_,h,_,_,_=>by cases h
 | [y],_,a,h,co,x,hx=>by
  have e:y=a:=by simpa using h
  cases mem_singleton.mp hx
  rw [e];exact co
 | y::z::r,h,a,hl,co,x,hx=>by
  rcases mem_cons.mp hx with rfl | hx
  ·exact bf9 h.1
  ·exact br4 h.2 a (by rw [List.getLast?_cons_cons] at hl;exact hl) co x hx
theorem aM6 {p:Int×Int}(h:IsSpot p.1 p.2):(stps p).getLast?=some p:=by
 have l:=aq1 p.2.toNat p.1 p.2 (0,1) (1,0) (le_refl _) h.nn (fun z=>by rcases h with ⟨a,_⟩ | ⟨a,_⟩ <;> omega) h.gcd
 refine Eq.trans l (congrArg some (Prod.ext ?_ ?_))
 ·show 1*p.1+0*p.2=p.1;omega
 ·show 0*p.1+1*p.2=p.2;omega
theorem by9 {p q:Int×Int}(hp:IsSpot p.1 p.2)(hq:IsSpot q.1 q.2):(wayP p q).head?=some p∧(wayP p q).getLast?=some q:=by
 obtain⟨l,r,e1,e2,e⟩:=aD9 p q hp.nn hq.nn
 have lp:=aM6 hp
 have lq:=aM6 hq
 rw [e1] at lp
 rw [e2] at lq
 constructor
 ·unfold wayP
  have h1:(stps p).reverse.head?=some p:=by rw [List.head?_reverse,e1];exact lp
  rw [List.head?_append,h1]
  rfl
 ·rw [e,List.getLast?_append,lq]
  rfl
theorem bz0 {n:Nat}(n1:1≤n)(n2:n≤48){g:Mt}(hd:g.det=1)(hc:(n:Int)∣g.c)(j:Nat){p q p' q':Int×Int}(hp:IsSpot p.1 p.2)(hq:IsSpot q.1 q.2)(hp':IsSpot p'.1 p'.2)(hq':IsSpot q'.1 q'.2)(e1:p'=nzP (actP g p))(e2:q'=nzP (actP g q)):ad4 n (wayP p' q') j=ad4 n (wayP p q) j:=by
 have aw:=aI8 p q hp.nn hq.nn
 obtain⟨w1,w2⟩:=by9 hp hq
 have co:=br4 aw q w2 hq.gcd
 have:=aA2 n1 n2 j ((wayP p q).map fun x=>nzP (actP g x)) p' q' (bg1 hd _ aw) (fun x hx=>by
  obtain⟨y,hy,rfl⟩:=mem_map.mp hx
  exact bU4 (br3 hd (co y hy))) (by rw [List.head?_map,w1,e1];rfl) (by rw [List.getLast?_map,w2,e2];rfl)
 rw [aY4 n1 n2 hd hc j _ aw] at this
 rw [aS2 n1 n2 j hp' hq',this]
theorem cb1 {x p:Int×Int}(co:gcd x.1 x.2=1)(h0:x.2=0→p=(1,0))(h1:x.2≠0→IsShort x.1 x.2 p.1 p.2):p=nzP x∧IsSpot p.1 p.2:=by
 by_cases c:x.2=0
 ·have e:=h0 c
  rw [e]
  refine⟨?_,.inl ⟨rfl,rfl⟩⟩
  rw [c,gcd_zero_right] at co
  unfold nzP
  rcases (show x.1=1∨x.1=-1 by omega) with z | z
  ·rw [if_pos (.inr ⟨c,by omega⟩)]
   exact Prod.ext z.symm c.symm
  ·rw [if_neg (by omega)]
   unfold ngP
   exact Prod.ext (by show 1=-x.1;omega) (by show 0=-x.2;omega)
 ·have S:=h1 c
  have sp:IsSpot p.1 p.2:=by
   rcases S.sg with z | ⟨z1,z2⟩
   ·exact .inr ⟨z,S.co⟩
   ·exact .inl ⟨z2,z1⟩
  refine⟨?_,sp⟩
  have pos:0 < p.2:=by
   obtain⟨k,k0,e1,e2⟩:=S.ex
   rcases S.sg with z | ⟨z1,z2⟩
   ·exact z
   ·rw [z1,mul_zero] at e2
    exact absurd e2 c
  rcases aM5 S co with ⟨z1,z2⟩ | ⟨z1,z2⟩
  ·unfold nzP
   rw [if_pos (.inl (by omega))]
   exact Prod.ext z1 z2
  ·unfold nzP
   rw [if_neg (by omega)]
   exact Prod.ext z1 z2
end
end Fr
namespace Fr
open PySem PySem.Spec L2
open PyProof.Rows hiding St Fr
theorem ak9:∀ {is:List Int} {its:List Value},Vals (is.map V.int) its→IntsAre its is
 | [],_,.nil=>.nil
 | i::is,_,.cons r t=>by
  obtain⟨k,rfl⟩:∃ k,_=Value.int i k:=r
  exact .cons i k (ak9 t)
theorem aS3:∀ {its:List Value} {is:List Int},IntsAre its is→Vals (is.map V.int) its
 | _,_,.nil=>.nil
 | _,_,.cons i k t=>.cons ⟨k,rfl⟩ (aS3 t)
section
variable {X:Cx}
theorem bj4 {pins:List (Addr×Obj)}{σ:St}{H:Hp}{s:Shared}{h':Heap}{m:Str→Option Value}{tk:Nat}(I:Inv X pins σ H s)(hl:∀ (i:Nat) (x:Str) (v:V),X.N[i]?=some x→σ[i]?=some (some v)→Vis X.env.scope x→∃ u,RelV v u∧Look X.env s.heap m x u)
  (hn:h'.Ns X.env.locals m) (k:∀ b o,b≠X.env.locals→s.heap.get? b=some o→h'.get? b=some o):Inv X pins σ H { s with heap:=h',toks:=tk }:=by
 have neL:∀ b o,X.s₀.heap.get? b=some o→b≠X.env.locals:=fun b o e=>ne_of_lt (lt_of_lt_of_le (Heap.lt_size e) I.ok.above)
 refine⟨I.ok,I.os,I.bare,⟨fun b o e n hb hx=>k b o (neL b o e) (I.base.keep b o e n hb hx),fun b o e n hb hx=>?_,I.base.free,fun b o e hx=>?_,I.base.tups,I.base.frzs,I.base.tbls⟩,⟨m,hn,fun j x u hj e hv=>?_⟩,fun x c e=>?_,I.free,I.freeC,fun p hp=>?_,?_,I.len⟩
 ·obtain⟨sl,e1⟩:=I.base.slot b o e n hb hx
  exact⟨sl,k b _ (neL b o e) e1⟩
 ·obtain⟨o',e1⟩:=I.base.there b o e hx
  exact⟨o',k b _ (neL b o e) e1⟩
 ·obtain⟨w,r,lk⟩:=hl j x u hj e hv
  refine⟨w,r,?_⟩
  rcases lk with lk | ⟨kd,c,ec,o,ho,hd⟩
  ·exact .inl lk
  ·exact .inr ⟨kd,c,ec,_,k c o (I.cne x c ec) ho,hd⟩
 ·obtain⟨v,o,ho,hd⟩:=I.cell x c e
  exact⟨v,o,k c o (I.cne x c e) ho,hd⟩
 ·obtain⟨e,n,ne,nf,d⟩:=I.pin p hp
  exact⟨k p.1 p.2 ne e,n,ne,nf,d⟩
 ·exact aC0 I.hok fun b u hb e=>k b u (fun z=>hb (by rw [z];exact I.free)) e
def br5 (K:PySem.W.Frag):List V→Hp→VK→Prop:=fun xs H Q=>∃ (p:Addr) (is:List Int),xs=[.ref p]∧SqL K H p (is.map V.int)∧is.length < 64∧∀ (os:List Int) l,os.Perm is→os.Pairwise (·≤·)→H l=none→Q (.ref l) (upd H l (.lst (os.map V.int)))
theorem bj5:ai5 X (.builtin "sorted") (br5 X.K):=by
 intro pins s σ H xs us Q I r h
 obtain⟨p,is,rfl,hq,h64,q⟩:=h
 obtain⟨u,rfl,rx⟩:=vals1 r
 cases rx
 obtain⟨its,r',pl,hz⟩:=I.list hq
 have hlen:=r'.length
 rw [length_map] at hlen
 refine sorted_ints pl.isList (ak9 r') (by omega) fun out ns' h1 h2 h3=>?_
 obtain⟨e,he⟩:=sortedAll_at s.heap its out
 have hl:=h2.length_eq
 exact⟨.ref (s.heap.objs.size+1),_,I.laid (t':=s.toks) (fun b o e=>sortedAll_old e) (le_succ _) (show ObjOk X.prog X.w _ _ _ (.lst (ns'.map V.int)) from ⟨by rw [length_map] at hz ⊢;omega,out.toList,e,aS3 h1,by simpa using he⟩),rfl,q _ _ h2 h3 (I.hok.fresh (le_succ _))⟩
end
end Fr
namespace L3
open PySem PySem.Spec L2
def bU6:List D→(List D→Prop)→Prop:=fun xs P=>∃ is:List Int,xs=[.lst (is.map D.int)]∧is.length < 64∧∀ os:List Int,os.Perm is→os.Pairwise (·≤·)→P (os.map D.int)
theorem Rps.ints_eq {K:PySem.W.Frag}{F:Hp}:∀ {is:List Int} {vs:List V},Rps K F vs (is.map D.int)→vs=is.map V.int
 | [],_,h=>h.inv_nil
 | i::is,_,h=>by
  obtain⟨v,us,rfl,h1,h2⟩:=h.inv_cons
  rw [h1.inv_int,Rps.ints_eq h2]
  rfl
theorem bK9 {K:PySem.W.Frag}:NC K (Fr.br5 K) bU6:=by
 intro F H xs vs Q P fh rs h q
 obtain⟨is,rfl,h1,p⟩:=h
 obtain⟨v,rfl,r⟩:=rs.inv1
 obtain⟨a,us,rfl,hs,rr⟩:=r.inv_lst
 rw [rr.ints_eq] at hs
 exact⟨a,is,rfl,SqL.of (fh _ _ hs),h1,fun os l h2 h3 hl=>q _ _ l (p os h2 h3) (.ints os) hl⟩
section
variable {X:Cx}{E:XK}{e:Expr}{es:List Expr}{pos:Pos}
theorem aY5 {x:Str}{p:Pos}{id:String}{r:List V→Hp→VK→Prop}{r3:List D→(List D→Prop)→Prop}{t:T3A}(hc:ai5 X (.builtin id) r)(rel:NC X.K r r3)(hg:Gl X x)(hm:X.mg x=none)(hv:bootBuiltins x=some (.builtin id))(ha:A3 X E (e::es) t)(hn:x≠"__name__":=by decide)(hdb:(x == ("__debug__" : Str))=false:=by decide)
  (he:starEach (e::es) X.env=(false,eval e X.env)::starEach es X.env:=by rfl) (hpl:(backTo pos (starEach es X.env)).any (·.1)=false:=by rfl):E3 X E (.Call (.Name x p) (e::es) [] pos) (tCN r3 t) :=
 ⟨fun F0 H0 B=>ac4 (as8 hc hg hm hv (ha.h F0 H0 B) hn hdb he hpl) fun _ _ _ h=>bD0 rel h⟩
end
def ixS:D→D→(D→Prop)→Prop:=fun x y P=>match x,y with
 | .scr ns,.int i=>∃ v,atI ns i=some v∧P (.int v)
 | _,_=>False
theorem bL0 {α β:Type}(f:α→β){xs:List α}{i:Int}{x:α}(h:atI xs i=some x):atI (xs.map f) i=some (f x):=by
 unfold atI at h ⊢
 rw [length_map]
 cases e:ixN xs.length i with
 | none=>rw [e] at h;cases h
 | some j =>
  rw [e] at h
  have h':xs[j]?=some x:=h
  show (xs.map f)[j]?=_
  rw [getElem?_map,h']
  rfl
theorem cb2 {K:PySem.W.Frag}:R3 K (rIxL K) ixS:=by
 intro F H x y v u Q P fh rx ry h q
 cases x with
 | scr ns =>
  cases y with
  | int i =>
   obtain⟨z,hz,p⟩:=h
   obtain⟨a,rfl,hs⟩:=rx.inv_scr
   obtain rfl:=ry.inv_int
   exact⟨_,_,_,_,rfl,rfl,fh.seq hs,bL0 V.int hz,q _ _ p (.int z)⟩
  | _=>exact h.elim
 | _=>exact h.elim
end L3
namespace L3
open PySem PySem.Spec L2
abbrev g2:T3G:=gTu 2 (aV7 (gNm 0) (aV7 (gNm 1) bC9))
theorem ai2 {ts:T3P}{l:List Sl}(hl:l.map Sl.wipe=l)(f:D→D):∀ {xs:List D} {s1 s2:Sl} {Q:List D→Prop},(∀ x∈xs,∃ y1 y2,x=.tup [y1,y2]∧∀ P:Option D→List Sl→Prop,P (some (f x)) (.d y1::.d y2::l)→ts (.d y1::.d y2::l) P)→Q (xs.map f)→ai0 g2 ts xs (s1::s2::l) Q
 | [],_,_,_,_,q=>q
 | x::xs,s1,s2,Q,h,q=>by
  obtain⟨y1,y2,rfl,h1⟩:=h x mem_cons_self
  show ts (.d y1::.d y2::l) _
  refine h1 _ ?_
  show ai0 g2 ts xs (.d y1::.d y2::l.map Sl.wipe) _
  rw [hl]
  exact ai2 hl f (fun y hy=>h y (mem_cons_of_mem _ hy)) q
end L3
namespace Fr
open PySem PySem.MeetsSeq PySem.MeetsSeq3 PySem.AutoSeq1 PyProof.Rows
section
variable (p q:Addr)(xs ys:Array Value)(a c:Int)(ta tc:Tok)(e1 e2:Nat)(d1 d2:Option Addr)(s1 s2:Array (Option Value))
def TwoL (h:Heap):Prop:=h.get? p=some { cls:=.type "list",dict:=d1,data:=.seq xs e1,slots:=s1 }∧h.get? q=some { cls:=.type "list",dict:=d2,data:=.seq ys e2,slots:=s2 }
theorem br6 (hx:xs[(0:Int).toNat]?=some (.int a ta))(hy:ys[(0:Int).toNat]?=some (.int c tc))(ne:a≠c):Meets (Builtin.«list.__eq__.loop» ⟨[.ref p,.ref q,rawInt 0,rawInt 0],[]⟩) (fun _ R s=>TwoL p q xs ys e1 e2 d1 d2 s1 s2 s.heap∧R (.ok (.ret (.bool (decide (a < c))))) s):=by
 intro prog w A R s hyp
 obtain⟨hh,gg,dd,kk,oo⟩:=s
 obtain⟨⟨h1,h2⟩,fin⟩:=hyp
 wp_walk using wpAny_loadPart' h1,wpAny_loadPart' h2
 rw [hx,hy]
 refine wpAny_bind (EqGives.int a c ta tc prog w _ _ _ _ ?_)
 have e:(a == c)=false:=by simpa using ne
 rw [e]
 wp_walk using wpAny_loadPart' h1,wpAny_loadPart' h2
 rw [hx,hy]
 have lt:=HT.rcLt_int A.in1 ⟨hh,gg,dd,kk,oo⟩ a ta c tc prog w
 wp_walk using lt
 first | exact fin | simpa using fin | (refine⟨_,rfl,?_⟩;simpa using fin)
theorem bL1 (hx:xs[(0:Int).toNat]?=some (.int a ta))(hy:ys[(0:Int).toNat]?=some (.int c tc))(ne:a≠c):Meets (Builtin.«list.__lt__» ⟨[.ref p,.ref q],[]⟩) (fun _ R s=>TwoL p q xs ys e1 e2 d1 d2 s1 s2 s.heap∧R (.ok (.ret (.bool (decide (a < c))))) s):=by
 intro prog w A R s hyp
 have H:=br6 p q xs ys a c ta tc e1 e2 d1 d2 s1 s2 hx hy ne prog w A R s hyp
 obtain⟨hh,gg,dd,kk,oo⟩:=s
 obtain⟨⟨h1,h2⟩,fin⟩:=hyp
 have sub:=AutoSeq1.sub_list_list
 wp_walk using wpAny_loadPart' h1,wpAny_loadPart' h2
 refine⟨plainId_quiet plain_eq_loop _,codeAny_builtin entry_eq_loop ?_⟩
 rw [Around.under_plainId plain_eq_loop _]
 exact H
end
section
variable {prog:Program}{w:World}{A:Around}{E:Value→Shared→Prop}{s:Shared}
theorem bb3 {p q:Addr}{xs ys:Array Value}{a c:Int}{ta tc:Tok}{Q:Bool→Shared→Prop}(hp:s.heap.IsList p xs)(hq:s.heap.IsList q ys)(hx:xs[0]?=some (.int a ta))(hy:ys[0]?=some (.int c tc))(ne:a≠c)(hu:A.units < cLine)(h:Q (decide (a < c)) s):wpAny (model prog w) A (keyLt' oneType' (.ref p) (.ref q)) Q E s:=by
 obtain⟨⟨c1,d1,o1,s1⟩,g1,k1,n1,m1⟩:=id hp
 obtain⟨⟨c2,d2,o2,s2⟩,g2,k2,n2,m2⟩:=id hq
 simp only at k1 m1 k2 m2
 subst k1 m1 k2 m2
 rw [keyLt'_oneType,oneLt'_eq]
 simp only [if_true]
 refine wpAny_bind (wpAny_cRoomFor hu ?_)
 refine wpAny_bind (wpAny_callSpecialIfBound?_slot (T:="list") ⟨_,g1,rfl⟩ PySem.F.slot_list_lt (call_meets PySem.F.slot_list_lt ⟨_,g1,rfl⟩ PySem.F.entry_list_lt (PySem.F.args_list_lt_2 _ _) (bL1 p q xs ys a c ta tc n1 n2 d1 d2 s1 s2 hx hy ne) ⟨⟨g1,g2⟩,?_⟩))
 exact wpAny_truthy_bool h
end
end Fr
namespace Fr
open PySem PySem.Spec L2
open PyProof.Rows hiding St Fr
section
variable {X:Cx}
def br7 (K:PySem.W.Frag)(A:Around):List V→Hp→VK→Prop:=fun xs H Q=>∃ (p:Addr) (us:List V) (ts:List (List Int)),xs=[.ref p]∧SqL K H p us∧us.length=ts.length∧(∀ (i:Nat) (v:V) (t:List Int),us[i]?=some v→ts[i]?=some t→∃ a,v=.ref a∧SqL K H a (t.map V.int))∧(∀ t∈ts,t≠[]) ∧
 (∀ (i:Nat) (t u:List Int),ts[i+1]?=some t→ts[i]?=some u→u.headD 0 < t.headD 0)∧ts.length < 64∧A.units+2 < cLine∧∀ l,H l=none→Q (.ref l) (upd H l (.lst us))
def HeadAt (h:Heap)(its:List Value)(ts:List (List Int)):Prop:=∀ (i:Nat) (v:Value) (t:List Int),its[i]?=some v→ts[i]?=some t→∃ (a:Addr) (xs:Array Value) (k:Tok),v=.ref a∧h.IsList a xs∧xs[0]?=some (.int (t.headD 0) k)
theorem bz1 {pins:List (Addr×Obj)}{σ:St}{H:Hp}{s:Shared}(I:Inv X pins σ H s){us:List V}{its:List Value}{ts:List (List Int)}(r:Vals us its)(e:us.length=ts.length)(h:∀ (i:Nat) (v:V) (t:List Int),us[i]?=some v→ts[i]?=some t→∃ a,v=.ref a∧SqL X.K H a (t.map V.int))(ne:∀ t∈ts,t≠[]):HeadAt s.heap its ts:=by
 intro i v t hv ht
 have lt:i < us.length:=by rw [e];exact (List.getElem?_eq_some_iff.mp ht).1
 obtain⟨w,ew,rw'⟩:=r.get (getElem?_eq_getElem lt)
 rw [hv] at ew
 cases ew
 obtain⟨a,ea,sq⟩:=h i _ t (getElem?_eq_getElem lt) ht
 rw [ea] at rw'
 cases rw'
 obtain⟨js,r',pl,_⟩:=I.list sq
 have hi:=ak9 r'
 have nt:=ne t (mem_of_getElem? ht)
 cases hi with
 | nil=>exact absurd rfl nt
 | cons n k hi=>exact⟨a,_,k,rfl,pl.isList,rfl⟩
theorem HeadAt.up {h h':Heap}{its:List Value}{ts:List (List Int)}(T:HeadAt h its ts)(k:∀ b o,(∃ xs n,o.data=.seq xs n)→h.get? b=some o→h'.get? b=some o):HeadAt h' its ts:=fun i v t hv ht=>by
 obtain⟨a,xs,c,e,⟨o,ho,hc,n,hd⟩,hx⟩:=T i v t hv ht
 exact⟨a,xs,c,e,⟨o,k a o ⟨xs,n,hd⟩ ho,hc,n,hd⟩,hx⟩
theorem bj6:ai5 X (.builtin "sorted") (br7 X.K X.A):=by
 intro pins s σ H xs us Q I r h
 obtain⟨p,vs,ts,rfl,hq,hl,hs,ne,up,h64,hu,q⟩:=h
 obtain⟨u,rfl,rx⟩:=vals1 r
 cases rx
 obtain⟨its,r',pl,hz⟩:=I.list hq
 have hlen:=r'.length
 have T:=bz1 I r' hl hs ne
 by_cases few:its.toArray.size < 2
 ·have e2:(its.toArray.zip its.toArray).map (·.2)=its.toArray:=Array.ext' (by rw [Array.toList_map,Array.toList_zip,List.map_snd_zip (le_refl _)])
  obtain⟨e,he⟩:=sortedAll_at s.heap its its.toArray
  refine bj0 pl.isList few ?_
  rw [e2]
  exact⟨.ref (s.heap.objs.size+1),_,I.laid (t':=s.toks) (fun b o e=>sortedAll_old e) (le_succ _) (show ObjOk X.prog X.w _ _ _ (.lst vs) from ⟨hz,its,e,r',he⟩),rfl,q _ (I.hok.fresh (le_succ _))⟩
 have two:2≤its.length:=by simpa using few
 obtain⟨m,hn,hlk⟩:=I.loc
 have F:PyProof.Rows.Fr X.base X.env.locals s.heap m:=⟨hn,I.bk,by obtain⟨_,F⟩:=I.fr;exact F.above⟩
 have kp:∀ {h':Heap} {ls:List (Addr×Obj)},PyProof.Rows.Fr X.base X.env.locals h' m→News X.base X.env.locals h' ls→(∀ x∈aF0 X.base s.heap X.env.locals,x∈ls)→∀ b o,b≠X.env.locals→s.heap.get? b=some o→h'.get? b=some o:=fun {h' ls} F' N' sub b o nb e=>by
  cases z:X.base.get? b with
  | some v =>
   have:=I.bk b v z
   rw [e] at this
   cases this
   exact F'.keep b _ z
  | none=>exact (N' (b,o) (sub _ (aH5 nb z e))).1
 have seqs:∀ {h':Heap},(∀ b o,b≠X.env.locals→s.heap.get? b=some o→h'.get? b=some o)→HeadAt h' its ts:=fun {h'} k=>T.up fun b o ⟨xs,n,hd⟩ e=>k b o (fun z=>by
  subst z
  obtain⟨o',es,ep,e',d',_⟩:=hn
  rw [e] at e'
  cases e'
  rw [hd] at d'
  cases d') e
 refine PySem.W.kas_sorted (T:=.type "list") F bu0 pl.isList two (by omega) (fun h1 F1 N1 v hv=>?_) (by decide +kernel) fun D e1 h' F' N' lt=>?_
 ·obtain⟨i,hi⟩:=List.getElem?_of_mem hv
  have lt:i < its.length:=(List.getElem?_eq_some_iff.mp hi).1
  obtain⟨a,xs,k,rfl,⟨o,ho,hc,_⟩,_⟩:=seqs (kp F1 N1 fun x hx=>hx) i v _ hi (getElem?_eq_getElem (l:=ts) (by omega))
  exact PySem.W.kitAt_ty _ _ ⟨o,ho,hc⟩
 have T':=seqs (kp F' N' fun x hx=>mem_cons_of_mem _ hx)
 refine bp6 (by omega) (fun i hi C hC=>?_) ?_
 ·have e1:its[i+1]?=some its[i+1]:=getElem?_eq_getElem hi
  have e2:its[i]?=some its[i]:=getElem?_eq_getElem (by omega)
  have t1:ts[i+1]?=some ts[i+1]:=getElem?_eq_getElem (by omega)
  have t2:ts[i]?=some ts[i]:=getElem?_eq_getElem (by omega)
  obtain⟨a,xs,k,f1,l1,x1⟩:=T' _ _ _ e1 t1
  obtain⟨a',xs',k',f2,l2,x2⟩:=T' _ _ _ e2 t2
  have lt':=up i _ _ t1 t2
  show wpAny _ _ (keyLt' _ (its.getD (i+1) Value.none) (its.getD i Value.none)) C _ _
  rw [getD_eq_getElem?_getD,getD_eq_getElem?_getD,e1,e2,f1,f2]
  refine bb3 l1 l2 x1 x2 (by omega) (by show X.A.units+1+1 < cLine;exact hu) ?_
  rw [decide_eq_false (by omega)]
  exact hC
 ·have same:(List.range its.length).toArray.toList.map (fun i=>its.getD i Value.none)=its:=by
   refine ext_getElem (by simp) fun j h1 h2=>?_
   simp [getElem?_eq_getElem h2]
  rw [same]
  refine .intro F' N' (.head fun x hx=>ne_of_lt (lt x hx)) fun h2 c F2 N2=>?_
  have kk:=kp F2 N2 fun x hx=>mem_cons_of_mem _ hx
  have J:=bj4 (tk:=s.toks) I hlk F2.ns kk
  obtain⟨_,DL,Db⟩:=N' (D,_) mem_cons_self
  have sD:s.heap.get? D=none:=by
   cases e:s.heap.get? D with
   | none=>rfl
   | some o=>exact absurd (lt _ (aH5 DL Db e)) (lt_irrefl _)
  have D0:H D=none:=ay6 I.hok sD
  have s0:∀ b o,X.s₀.heap.get? b=some o→b ∉ X.ex→b≠D:=fun b o e n z=>by
   obtain⟨o',e'⟩:=I.base.there b o e n
   rw [z,sD] at e'
   cases e'
  have nD:=(N2 (D,_) mem_cons_self).1
  have un:∀ b o,H b=some o→upd H D (.lst vs) b=some o:=fun b o e=>by rw [ab2 (ad8 e D0)];exact e
  refine⟨.ref D,_,⟨J.ok,J.os,J.bare,⟨J.base.keep,J.base.slot,fun b o e n hx=>?_,J.base.there,fun b xs e=>un _ _ (J.base.tups b xs e),fun b o xs e=>un _ _ (J.base.frzs b o xs e),fun b ps e=>?_⟩,J.loc,J.cell,?_,fun x c' e=>?_,fun p hp=>?_,bn2 J.hok D0 (show ObjOk X.prog X.w _ _ _ (.lst vs) from ⟨hz,its,c,r',nD⟩),J.len⟩,rfl,q D D0⟩
  ·rw [ab2 (s0 b o e hx)]
   exact J.base.free b o e n hx
  ·obtain⟨ms,e'⟩:=J.base.tbls b ps e
   exact⟨ms,un _ _ e'⟩
  ·rw [ab2 (Ne.symm DL)]
   exact I.free
  ·have nc:c'≠D:=fun z=>by
    obtain⟨v,o,ho,_⟩:=I.cell x c' e
    rw [z,sD] at ho
    cases ho
   rw [ab2 nc]
   exact I.freeC x c' e
  ·obtain⟨e,n,ne',nf,d⟩:=J.pin p hp
   have np:p.1≠D:=fun z=>by
    have:=(I.pin p hp).1
    rw [z,sD] at this
    cases this
   exact⟨e,by rw [ab2 np];exact n,ne',nf,d⟩
end
end Fr
namespace L3
open PySem PySem.Spec L2
def lstI (t:List Int):D:=.lst (t.map D.int)
def bU7:List D→(List D→Prop)→Prop:=fun xs P=>∃ ts:List (List Int),xs=[.lst (ts.map lstI)]∧(∀ t∈ts,t≠[])∧(∀ (i:Nat) (t u:List Int),ts[i+1]?=some t→ts[i]?=some u→u.headD 0 < t.headD 0)∧ts.length < 64∧P (ts.map lstI)
theorem bL2 {K:PySem.W.Frag}{A:Around}(hu:A.units+2 < cLine):NC K (Fr.br7 K A) bU7:=by
 intro F H xs vs Q P fh rs h q
 obtain⟨ts,rfl,h1,h2,h3,p⟩:=h
 obtain⟨v,rfl,r⟩:=rs.inv1
 obtain⟨a,us,rfl,hs,rr⟩:=r.inv_lst
 refine⟨a,us,ts,rfl,SqL.of (fh _ _ hs),by rw [rr.len,length_map],fun i v t e1 e2=>?_,h1,h2,h3,hu,fun l hl=>q _ _ l p rr hl⟩
 obtain⟨w,e3,rw'⟩:=rr.at (i:=i) (d:=lstI t) (by rw [getElem?_map,e2];rfl)
 rw [e1] at e3
 cases e3
 obtain⟨b,ws,rfl,hb,rb⟩:=rw'.inv_lst
 rw [rb.ints_eq] at hb
 exact⟨b,rfl,SqL.of (fh _ _ hb)⟩
theorem aO9 {K:PySem.W.Frag}{F:Hp}(i:Int):∀ {ks:List Int} {vs:List V},Rps K F vs (ks.map D.int)→vs.all aq0=true∧inV (.int i) vs=ks.any fun k=>k == i
 | [],_,.nil=>⟨rfl,rfl⟩
 | k::ks,_,.cons (.int _) t=>by
  obtain⟨h1,h2⟩:=aO9 i t
  refine⟨h1,?_⟩
  show (eqV (.int k) (.int i) || inV (.int i) _)=_
  rw [h2,any_cons]
  rfl
end L3
namespace L3
open PySem PySem.Spec L2
def cb3:D→D→(D→Prop)→Prop:=fun x y P=>∃ (i:Int) (ks:List Int),x=.int i∧y=.lst (ks.map D.int)∧P (.bl (!ks.any fun k=>k == i))
theorem aY6 {K:PySem.W.Frag}:R3 K (rIn K true) cb3:=by
 intro F H x y v u Q P fh rx ry h q
 obtain⟨i,ks,rfl,rfl,p⟩:=h
 obtain⟨a,xs,rfl,hs,rs⟩:=ry.inv_lst
 cases rx
 obtain⟨h1,h2⟩:=aO9 i rs
 exact⟨a,xs,rfl,.inl (SqL.of (fh _ _ hs)),rfl,h1,by rw [if_pos rfl,h2];exact q _ _ p (.bl _)⟩
end L3
namespace L3
open PySem PySem.Spec L2
theorem aY7 {K:PySem.W.Frag}{F F':Hp}:∀ {vs:List V} {xs:List D},(∀ y∈xs,flat y=true)→Rps K F vs xs→Rps K F' vs xs
 | _,_,_,.nil=>.nil
 | _,_,h,.cons r t=>.cons (bI9 (h _ mem_cons_self) r) (aY7 (fun y hy=>h y (mem_cons_of_mem _ hy)) t)
theorem aS4 {α β:Type}{R:α→β→Prop}:∀ {as:List α} {bs:List β},Paired R as bs→as.length=bs.length∧∀ (k:Nat) (a:α),as[k]?=some a→∃ b:β,bs[k]?=some b∧R a b
 | _,_,.nil=>⟨rfl,fun k a h=>by simp at h⟩
 | _,_,.cons h t=>by
  obtain⟨l,r⟩:=aS4 t
  refine⟨by simp [l],fun k a ha=>?_⟩
  cases k with
  | zero=>cases ha;exact⟨_,rfl,h⟩
  | succ k=>obtain⟨b,b1,b2⟩:=r k a (by simpa using ha);exact⟨b,by simpa using b1,b2⟩
theorem bg2 {δ:List Sl}:∀ {is:List Nat} {xs:List D},pks δ is=some xs→xs.length=is.length
 | [],_,e=>by cases e;rfl
 | i::is,xs,e=>by
  unfold pks at e
  cases q:pk δ i with
  | none=>rw [q] at e;cases e
  | some x =>
   rw [q] at e
   dsimp only at e
   cases q2:pks δ is with
   | none=>rw [q2] at e;cases e
   | some ys=>rw [q2] at e;cases e;simp [bg2 q2]
def tCmP (n:Nat)(js:List Nat)(ti:T3I)(g:T3G)(ts:T3P):T3E:=fun Z δ Q=>ti Z δ fun xs δ1=>match pks δ1 js with
 | some l=>xs.length≤1000000∧ai0 g ts xs (replicate n .un++l.map Sl.d) fun ys=>(∀ y∈ys,flat y=true)∧Q (.own (.lst ys)) δ1
 | none=>False
theorem bz2 {K:PySem.W.Frag}{E:XK}{F0 H0:Hp}{B:Option Addr}{n:Nat}{fr:List (Str×Nat)}{ti:T3I}{g:T3G}{ts:T3P}{σ:St}{H:Hp}{Q:VK}(h:LE K E F0 H0 B (tCmP n (fr.map (·.2)) ti g ts) σ H Q) :
  Fr.aL2 fr n (LIc K E F0 H0 B ti) (fun v σ H Q=>∃ i:Hp×Hp×Option Addr,LG K i.1 i.2.1 i.2.2 g v σ H Q) (LP K ts) σ H Q:=by
 obtain⟨δ,F,Z,P,L,z,w,q⟩:=h
 refine⟨δ,F,Z,_,L,z,w,fun xs δ1 F1 H1 J p1 L1 s1 it D hD=>?_⟩
 cases ef:L3.pks δ1 (fr.map (·.2)) with
 | none=>rw [ef] at p1;exact p1.elim
 | some l0 =>
  rw [ef] at p1
  obtain⟨hx,p1⟩:=p1
  obtain⟨vs0,F2,pr,s2,fh2,rs0⟩:=L1.pks (Same.refl _) L1.fh ef
  obtain⟨plen,pat⟩:=aS4 pr
  have len0:=bg2 ef
  have tb2:=L1.tbF.same s2
  have all:∀ (k:Nat) (s:Sl),(l0.map Sl.d)[k]?=some s→∃ x v j,(fr.map (·.2))[k]?=some j∧s=.d x∧σ[j]?=some (some v)∧Rp K F2 v x:=fun k s hk=>by
   rw [getElem?_map] at hk
   obtain⟨x,hx',rfl⟩:=Option.map_eq_some_iff.mp hk
   have lt:k < (fr.map (·.2)).length:=by rw [← len0];exact (List.getElem?_eq_some_iff.mp hx').1
   obtain⟨v,hv,e1⟩:=pat k _ (getElem?_eq_getElem lt)
   obtain⟨d,ed,rd⟩:=rs0.at' hv
   rw [hx'] at ed
   cases ed
   exact⟨x,v,_,getElem?_eq_getElem lt,rfl,e1,rd⟩
  have len:(l0.map Sl.d).length=(fr.map (·.2)).length:=by rw [length_map];exact len0
  generalize hl:l0.map Sl.d=l at all len p1
  have sD:Same H1 (upd H1 D (.lst [])):=Fr.Same.new hD
  have fD:F2 D=none:=by
   cases e:F2 D with
   | none=>rfl
   | some u=>have:=fh2 _ _ e;rw [hD] at this;cases this
  have fD1:F1 D=none:=(L1.fr0 hD).2
  have Li:Lk K F2 (upd H1 D (.lst [])) none (replicate n none++Fr.stF fr σ) (replicate n .un++l) F2 (upd H1 D (.lst [])):=by
   have at':∀ (i:Nat) (s:Sl),(replicate n Sl.un++l)[i]?=some s→s=.un∨(n≤i∧l[i - n]?=some s):=fun i s e=>by
    by_cases lt:i < n
    ·rw [getElem?_append_left (by simpa using lt),getElem?_replicate] at e
     rw [if_pos lt] at e
     exact .inl (Option.some.inj e).symm
    ·rw [getElem?_append_right (by simpa using lt),length_replicate] at e
     exact .inr ⟨by omega,e⟩
   refine⟨fh2.trans sD,Same.refl _,fun _ _ e _=>e,fun _ _=>rfl,fun _ e=>(by cases e),by simp [len,Fr.stF],fun i s e=>?_,fun i j o o' e1 _ _=>?_,fun i j o o' e1 _=>?_,tb2⟩
   ·rcases at' i s e with rfl | ⟨ni,el⟩
    ·trivial
    ·obtain⟨x,v,j,a1,rfl,a3,a4⟩:=all _ _ el
     refine⟨v,?_,a4⟩
     rw [getElem?_append_right (by simpa using ni),length_replicate]
     unfold Fr.stF
     rw [getElem?_map] at a1 ⊢
     cases eq:fr[i - n]? with
     | none=>rw [eq] at a1;cases a1
     | some qq =>
      rw [eq] at a1
      have a1:qq.2=j:=by simpa using a1
      show some ((σ[qq.2]?).join)=_
      rw [a1,a3]
      rfl
   ·rcases at' i _ e1 with z1 | ⟨ni,el⟩
    ·cases z1
    ·obtain⟨x,v,j,a1,a2,a3,a4⟩:=all _ _ el
     cases a2
   ·rcases at' i _ e1 with z1 | ⟨ni,el⟩
    ·cases z1
    ·obtain⟨x,v,j,a1,a2,a3,a4⟩:=all _ _ el
     cases a2
  refine⟨fun i m τ ys H=>m=xs.length - i∧i≤xs.length∧ys.length≤i∧∃ δi F zs,Lk K F H none τ δi F H∧Same F2 F∧Same F H∧Same H1 (upd H D (.lst ys))∧(∀ a,H1 a≠none→F a=F2 a)∧F D=none∧H D=some (.lst ys)∧Rps K F ys zs∧ai0 g ts (xs.drop i) δi fun ws=>(∀ y∈zs++ws,flat y=true)∧P (.own (.lst (zs++ws))) δ1,
   ⟨xs.length,by simp,zero_le _,zero_le _,_,F2,[],Li,Same.refl _,fh2.trans sD,?_,fun _ _=>rfl,fD,ab5,.nil,p1⟩,?_⟩
  ·intro a u ea
   rw [bc1]
   exact sD a u ea
  rintro i m τ ys G ⟨rfl,hi,hy,δi,F3,zs,L3,s3,s3h,h1g,f3,fD3,hD3,rs,pc⟩
  have sG:Same H1 G:=fun a u ea=>by
   have:=h1g a u ea
   by_cases e:a=D
   ·subst e;rw [hD] at ea;cases ea
   ·rwa [ab2 e] at this
  by_cases lt:i < xs.length
  ·refine .inr ⟨it.go i F3 G (s2.trans s3) s3h sG lt,af7 (by omega),fun v G2 yv=>?_⟩
   obtain⟨F4,d,a1,a2,a3,a4,a5,a6⟩:=it.yld i F3 G v G2 (s2.trans s3) s3h sG lt yv
   have ed:xs.drop i=d::xs.drop (i+1):=by
    rw [drop_eq_getElem_cons lt,(List.getElem?_eq_some_iff.mp a5).2]
   rw [ed] at pc
   have fD4:F4 D=none:=by rw [a4 D (by rw [hD3];intro z;cases z)];exact fD3
   have hD4:G2 D=some (.lst ys):=a3 _ _ hD3
   have L4:Lk K F3 G none τ δi F4 G2:=L3.grow a1 a2 a3 a4
   refine⟨(F3,G,none),δi,F4,d,_,L4,a6,pc,fun τ5 δ5 F5 G5 p5 L5 s5=>⟨F3,G,none,δ5,F5,_,L5,p5,fun oy δ6 F6 G6 p6 L6 s6=>?_⟩⟩
   have hD6:G6 D=some (.lst ys):=L6.h0 D _ hD3 fun z=>by cases z
   have fD6:F6 D=none:=by rw [L6.ff D (by rw [hD3];intro z;cases z)];exact fD3
   have s36:Same F3 F6:=L6.f0
   have g6:Same G G6:=fun a u ea=>L6.h0 a u ea fun z=>by cases z
   have nf6:∀ a,H1 a≠none→F6 a=F2 a:=fun a ha=>by
    rw [← f3 a ha]
    refine L6.ff a fun z=>?_
    cases e:H1 a with
    | none=>exact ha e
    | some u=>rw [sG a u e] at z;cases z
   cases oy with
   | none =>
    refine⟨_,by omega,rfl,lt,by omega,_,F6,zs,L6.fresh (Same.refl _) L6.fh,s3.trans s36,L6.fh,fun a u ea=>?_,nf6,fD6,hD6,rs.same s36,p6⟩
    by_cases e:a=D
    ·subst e;rw [hD] at ea;cases ea
    ·rw [ab2 e];exact g6 a u (sG a u ea)
   | some y =>
    intro v6 r6
    have sU:Same F6 (upd G6 D (.lst (ys++[v6]))):=fun a u ea=>by
     have:a≠D:=by rintro rfl;rw [fD6] at ea;cases ea
     rw [ab2 this];exact L6.fh a u ea
    refine⟨hD6,_,by omega,rfl,lt,by simp;omega,_,F6,zs++[y],L6.fresh (Same.refl _) sU,s3.trans s36,sU,fun a u ea=>?_,nf6,fD6,ab5,(rs.same s36).append (.one r6),?_⟩
    ·by_cases e:a=D
     ·subst e;rw [hD] at ea;cases ea
     ·rw [ab2 e,ab2 e];exact g6 a u (sG a u ea)
    ·have e2:(fun ws=>(∀ y'∈zs++[y]++ws,flat y'=true)∧P (.own (.lst (zs++[y]++ws))) δ1)=fun ws=>(∀ y'∈zs++y::ws,flat y'=true)∧P (.own (.lst (zs++y::ws))) δ1:=by
      funext ws
      rw [append_assoc]
      rfl
     rw [e2]
     exact p6
  ·have e:i=xs.length:=by omega
   subst e
   rw [drop_length] at pc
   refine .inl ⟨it.stop F3 G (s2.trans s3) s3h sG,?_⟩
   have pc:(∀ y∈zs++[],flat y=true)∧P (.own (.lst (zs++[]))) δ1:=pc
   rw [append_nil] at pc
   obtain⟨fl,pc⟩:=pc
   have L5:Lk K F0 H0 B σ δ1 F1 G:=L1.grow (Same.refl _) (L1.fh.trans sG) sG fun _ _=>rfl
   refine q _ δ1 _ F1 G pc L5 s1 ⟨D,rfl,fD1,(L1.fr0 hD).1,⟨ys,hD3,aY7 fl rs⟩,fun j o' ej zz=>?_⟩
   obtain⟨a',e1,_,_,w'⟩:=L1.sl j _ ej
   rw [zz] at e1
   cases e1
   obtain⟨ho,eh⟩:=w'.there
   rw [hD] at eh
   cases eh
section
variable {X:Cx}{E:XK}{elt iter tg:Expr}{ifs:List Expr}{xs:List Str}{pos:Pos}{scope:Scope}{fr:List (Str×Nat)}{ti:T3I}{g:T3G}{ts:T3P}
theorem bL3 (i₀:Nat){y:Str}{py spos:Pos}(hN:X.N.Nodup)(hiy:X.N[i₀]?=some y)(hy:Loc X.env.scope y)(hc:X.calm=true)(hi:I3c X E tg iter ti)(O:Fr.FrOkV X scope xs fr)
  (hg:∀ (s₀:Shared) (H₀:Hp) (fp:List Addr) (pn:List (Addr×Obj)),G3 (Fr.cxCV X scope xs fr s₀ H₀ fp pn) tg g)
  (hstep:∀ (s₀:Shared) (H₀:Hp) (fp:List Addr) (pn:List (Addr×Obj)),P3 (Fr.cxCV X scope xs fr s₀ H₀ fp pn) ifs elt ts) (hlf:ifs.length≤1:=by decide)
  (hsw:swapsWith (.ListComp elt [⟨tg,iter,ifs,0⟩] scope pos) (some (.Name y py)) spos.line X.env=pure true:=by rfl)
  (hf:X.fn y=true∨X.env.scope.names.lookup y=some .local:=by first | exact .inl rfl | exact .inr rfl | assumption)
  (hs:∀ y,foldedSetIterable iter X.env y=pure y:=by intro _;rfl):S3 X E (.Assign [.Name y py] (.ListComp elt [⟨tg,iter,ifs,0⟩] scope pos) spos) (tSt i₀ (tCmP xs.length (fr.map (·.2)) ti g ts)) :=
 ⟨fun F0 H0 B=>af8 (Fr.bd8 hN hiy hy hc (hi.h F0 H0 B) O (fun s₀ H₀ fp pn=>bi6 (ι:=Hp×Hp×Option Addr) fun i=>(hg s₀ H₀ fp pn).h i.1 i.2.1 i.2.2) (fun s₀ H₀ fp pn=>(hstep s₀ H₀ fp pn).h) hlf hsw hf hs) fun Dn σ H hh=>ex4 hh fun δ F Z En L z w ok =>
  bz2 ⟨δ,F,Z,_,L,z,w,fun r δ' v F' H' p L' s k=>ok.nx _ _ F' H' p (L'.setR k) s⟩⟩
end
def inLI:D→D→(D→Prop)→Prop:=fun x y P=>∃ (i:Int) (ks:List Int),x=.int i∧y=.lst (ks.map D.int)∧P (.bl (ks.any fun k=>k == i))
theorem bE4 {K:PySem.W.Frag}:R3 K (rIn K false) inLI:=by
 intro F H x y v u Q P fh rx ry h q
 obtain⟨i,ks,rfl,rfl,p⟩:=h
 obtain⟨a,xs,rfl,hs,rs⟩:=ry.inv_lst
 cases rx
 obtain⟨h1,h2⟩:=aO9 i rs
 exact⟨a,xs,rfl,.inl (SqL.of (fh _ _ hs)),rfl,h1,by rw [if_neg (by decide),h2];exact q _ _ p (.bl _)⟩
def inLB:D→D→(D→Prop)→Prop:=fun x y P=>∃ (i:Bool) (ks:List Bool),x=.bl i∧y=.lst (ks.map D.bl)∧P (.bl (ks.any fun k=>k == i))
theorem br8 {K:PySem.W.Frag}{F:Hp}(i:Bool):∀ {ks:List Bool} {vs:List V},Rps K F vs (ks.map D.bl)→vs.all aq0=true∧inV (.bl i) vs=ks.any fun k=>k == i
 | [],_,.nil=>⟨rfl,rfl⟩
 | k::ks,_,.cons (.bl _) t=>by
  obtain⟨h1,h2⟩:=br8 i t
  refine⟨h1,?_⟩
  show (eqV (.bl k) (.bl i) || inV (.bl i) _)=_
  rw [h2,any_cons]
  cases k <;> cases i <;> rfl
theorem cb4 {K:PySem.W.Frag}:R3 K (rIn K false) inLB:=by
 intro F H x y v u Q P fh rx ry h q
 obtain⟨i,ks,rfl,rfl,p⟩:=h
 obtain⟨a,xs,rfl,hs,rs⟩:=ry.inv_lst
 cases rx
 obtain⟨h1,h2⟩:=br8 i rs
 exact⟨a,xs,rfl,.inl (SqL.of (fh _ _ hs)),rfl,h1,by rw [if_neg (by decide),h2];exact q _ _ p (.bl _)⟩
def tODP (r3:D→D→(D→Prop)→Prop)(i:Nat)(t:T3D):T3D:=fun Z δ Q=>t Z δ fun y δ'=>(match pk δ' i with
  | some x=>r3 y x fun z=>(match z with
   | .bl k=>Q (.bl k) δ'
   | _=>False)
  | none=>False)
section
variable {X:Cx}{E:XK}{a b:Expr}{pos:Pos}
theorem bL4 {K:PySem.W.Frag}{F0 H0:Hp}{B:Option Addr}{i:Nat}{t:T3D}{r:R2}{r3:D→D→(D→Prop)→Prop}(rel:R3 K r r3){σ:St}{H:Hp}{Q:VK}(h:LD K E F0 H0 B (tODP r3 i t) σ H Q):tOp r (LD K E F0 H0 B t) (tVar i) σ H Q:=by
 obtain⟨δ,F,Z,P,L,z,w,q⟩:=h
 refine⟨δ,F,Z,_,L,z,w,fun y δ' u F' H' p' L' s ru=>?_⟩
 cases e2:L3.pk δ' i with
 | none=>rw [e2] at p';exact p'.elim
 | some x =>
  rw [e2] at p'
  obtain⟨v',Fp,s2,b1,b2,b3⟩:=L'.pk (Same.refl _) L'.fh e2
  refine⟨v',s2,rel Fp H' y x u v' Q _ b2 (ru.same b1) b3 p' fun zz ww pz rz=>?_⟩
  cases rz with
  | bl k=>exact q _ δ' _ F' H' pz L' s (.bl k)
  | _=>exact pz.elim
theorem bL5 (i:Nat){op:CmpOp}{r:R2}{r3:D→D→(D→Prop)→Prop}{x:Str}{p1:Pos}{t:T3D}(ho:OpR X (compareOp op) r)(rel:R3 X.K r r3)(ha:D3 X E a t)(hm:behindInMarks op (.Name x p1)=false)
  (hN:X.N[i]?=some x:=by rfl) (hv:Vis X.env.scope x:=by first | exact Or.inl rfl | exact Or.inr (Or.inl rfl) | exact Or.inr (Or.inr rfl)) (hd:(x == ("__debug__" : Str))=false:=by decide) (hcd:(x == ("__classdict__" : Str))=false:=by decide) :
  C3 X E (.Compare a [op] [.Name x p1] pos) (tB3 (tODP r3 i t)) :=
 ⟨fun F0 H0 B=>aw1 (aN5 ho (ha.h F0 H0 B) (ae3 hN hv hd hcd) hm) fun σ H Q hh=>ex4 hh fun δ F Z P L z w q=>bL4 (E:=E) (F0:=F0) (H0:=H0) (B:=B) rel ⟨δ,F,Z,_,L,z,w,fun x δ' v F' H' p L' s r=>by
  obtain⟨c,rfl,k⟩:=aC3 p
  exact⟨c,r.inv_bl,q _ δ' F' H' k L' s⟩⟩⟩
end
end L3
namespace L2
open PySem PySem.Spec PyProof.Rows
def cb5 (K:PySem.W.Frag):V→V→Hp→VK→Prop:=fun o i H Q=>∃ p xs k x,o=.ref p∧i=.int k∧SqL K H p xs∧0≤k∧atI xs k=some x∧Q x H
theorem bz3 {X:Cx}:PGet X (cb5 X.K):=by
 intro pins s σ H o i ov iv Q I ro ri h
 obtain⟨p,xs,k,z,rfl,rfl,hq,h0,he,q⟩:=h
 cases ro
 obtain⟨t,rfl⟩:=ri
 obtain⟨its,r,pl,hz⟩:=I.list hq
 obtain⟨j,h1,h2,h3,h4,h5⟩:=aN6 he
 obtain⟨w,ew,rw'⟩:=r.get h2
 have hl:=r.length
 have hn:=aB3
 have hj:k.toNat=j:=by
  rw [seqIndex_of h0 h5] at h1
  exact Option.some.inj h1
 exact wpAny_mono (wpAny_getItem_list (Q:=fun r s'=>r=w∧s'=s) pl.isList h0 (by omega) (by rw [hj];simpa using ew) ⟨rfl,rfl⟩) (fun v s' ⟨e1,e2⟩=>by subst e1 e2;exact⟨z,H,I,rw',q⟩) fun _ _ z=>z
end L2
namespace L3
open PySem PySem.Spec L2
def tSiA (g:Int→Int→Int)(i:Nat)(tk tv:T3D):T3S:=fun Z En δ=>match go δ i with
 | some (.lst _)=>tk Z δ fun y δ1=>(match y,go δ1 i with
  | .int k,some (.lst xs)=>0≤k∧∃ (j:Nat) (u:Int),ixN xs.length k=some j∧xs[j]?=some (.int u)∧tv Z δ1 fun x δ2=>(match x,go δ2 i with
   | .int v,some (.lst ys)=>ys.length=xs.length∧En.nx (pt δ2 i (.lst (ys.set j (.int (g u v)))))
   | _,_=>False)
  | _,_=>False)
 | _=>False
section
variable {X:Cx}{E:XK}{b e:Expr}{pos:Pos}
theorem br9 (i:Nat){x:Str}{p tpos:Pos}{op:Operator}{g:Int→Int→Int}{tk tv:T3D}(ho:PIp X op (ipI g))(hk:D3 X E b tk)(hv':D3 X E e tv)(hN:X.N[i]?=some x:=by rfl)(hv:Vis X.env.scope x:=by first | exact Or.inl rfl | exact Or.inr (Or.inl rfl) | exact Or.inr (Or.inr rfl))
  (hd:(x == ("__debug__" : Str))=false:=by decide) (hcd:(x == ("__classdict__" : Str))=false:=by decide)
  (ha:∀ ov iv new,augStore b ov iv new=(do holding [new,ov,iv] (setItem ov iv new);release [new,ov,iv] [];pure .next):=by intros;rfl) :
  S3 X E (.AugAssign (.Subscript (.Name x p) b tpos) op e pos) (tSiA g i tk tv) :=
 ⟨fun F0 H0 B=>af8 (bF5 (ae3 hN hv hd hcd) (hk.h F0 H0 B) bz3 (hv'.h F0 H0 B) ho set_list ha) fun Dn σ H hh=>ex4 hh fun δ F Z En L z w ok=>by
  unfold tSiA at w
  cases e0:L3.go δ i with
  | none=>rw [e0] at w;exact w.elim
  | some ob =>
   rw [e0] at w
   cases ob with
   | lst xs0 =>
    obtain⟨a,e1,f1,⟨vs0,h1,_⟩,_⟩:=L.go e0
    refine⟨_,e1,δ,F,Z,_,L,z,w,fun kk δ1 u1 F1 H1 p1 L1 s1 r1=>?_⟩
    cases e2:L3.go δ1 i with
    | none=>rw [e2] at p1;cases r1 <;> exact p1.elim
    | some ob1 =>
     rw [e2] at p1
     cases r1 with
     | int k =>
      cases ob1 with
      | lst xs =>
       obtain⟨k0,j,u,hj,hu,p1⟩:=p1
       obtain⟨a',e3,f3,⟨vs,h3,r3⟩,_⟩:=L1.go e2
       rw [e1] at e3
       cases e3
       obtain⟨vu,hvu,ru⟩:=r3.at hu
       cases ru
       refine⟨_,vs,k,_,rfl,rfl,SqL.of h3,k0,by unfold atI;rw [r3.len,hj];exact hvu,δ1,F1,Z,_,L1,z,p1,fun y δ2 v2 F2 H2 p2 L2 s2 r2=>?_⟩
       cases e4:L3.go δ2 i with
       | none=>rw [e4] at p2;cases r2 <;> exact p2.elim
       | some ob2 =>
        rw [e4] at p2
        cases r2 with
        | int v =>
         cases ob2 with
         | lst ys =>
          obtain⟨ly,p2⟩:=p2
          obtain⟨a2,e5,f5,⟨ws,h5,r5⟩,up⟩:=L2.go e4
          rw [e1] at e5
          cases e5
          refine⟨_,_,rfl,rfl,_,ws,k,j,rfl,rfl,h5,by rw [r5.len,ly];exact hj,?_⟩
          exact ok.nx _ _ F2 _ p2 (up _ _ ⟨_,ab5,r5.set (.int _) j⟩) (s1.trans s2)
         | _=>exact p2.elim
        | _=>exact p2.elim
      | _=>exact p1.elim
     | _=>exact p1.elim
   | _=>exact w.elim⟩
end
end L3
namespace L2
open PySem PySem.Spec PyProof.Rows
section
variable {X:Cx}{pos:Pos}
def gLst (K:PySem.W.Frag)(n:Nat)(t:TGs):TG:=fun v σ H Q=>∃ a xs,v=.ref a∧SqL K H a xs∧xs.length=n∧t xs σ H Q
theorem bU8 {es:List Expr}{k:Nat}{t:TGs}{n:Nat}(hc:X.calm=true)(h:PGs X es t)
  (hn:(assignEach es X.env).length=n:=by rfl) (hst:(assignEach es X.env).findIdx? (·.1)=none:=by rfl):PG X (.Tuple es k pos) (gLst X.K n t):=by
 intro pins s σ H v u Q I r hw
 obtain⟨a,xs,e1,hq,hl,hw⟩:=hw
 subst e1
 cases r
 obtain⟨its,rv,ht,hz⟩:=I.list hq
 rw [assign_Tuple]
 refine wpAny_bind (wpAny_standAt ?_)
 unfold unpack
 have e:(assignEach es X.env).length=its.toArray.size:=by simp [hn,← hl,rv.length]
 rw [e,hst]
 refine wpAny_bind (wpAny_holding (PySem.W.kun_itemsOf (I.ok.hd hc) ht.isList fun h' hx=>?_))
 have I1:Inv X pins σ H { s with heap:=h' }:=I.kept (t':=s.toks) fun b o e=>hx b o (ne_of_lt (Heap.lt_size e)) e
 exact h pins _ σ H xs _ Q I1 (by simpa using rv) hw
end
end L2
namespace L3
open PySem PySem.Spec L2
section
variable {X:Cx}{E:XK}{es:List Expr}{pos:Pos}
def gTl (n:Nat)(gs:T3Gs):T3G:=fun x δ Q=>match x with
 | .lst xs=>(match beq xs.length n with
  | true=>gs xs δ Q
  | false=>False)
 | _=>False
theorem cb6 {k:Nat}{gs:T3Gs}{n:Nat}(hc:X.calm=true)(h:Gs3 X es gs)(hn:(assignEach es X.env).length=n:=by rfl)(hst:(assignEach es X.env).findIdx? (·.1)=none:=by rfl):G3 X (.Tuple es k pos) (gTl n gs) :=
 ⟨fun F0 H0 B=>aV6 (bU8 hc (h.h F0 H0 B) hn hst) fun v σ H Q hh=>ex4 hh fun δ F x P L r w q=>by
  cases r with
  | lst hs rs =>
   unfold gTl at w
   dsimp only at w
   cases e:beq _ n with
   | false=>rw [e] at w;exact w.elim
   | true =>
    rw [e] at w
    exact⟨_,_,rfl,SqL.of (L.fh _ _ hs),by rw [rs.len];exact eq_of_beq_eq_true e,δ,F,_,P,L,rs,w,q⟩
  | _=>exact w.elim⟩
end
end L3
namespace Fr
open PySem L2 L3
def top (i:Nat):Stmt:=PySem.Challenge.pw_fractionroads_k35_whole_roads_of_the_lev.main.body.getD i (.Pass ⟨0,0,0,0⟩)
abbrev as2:Stmt:=top 6
abbrev ao3:Stmt:=top 7
theorem bs0 (z:Int):0≤(if z < 0 then -z else z):=by split <;> omega
def isW:D→Bool
 | .int _=>true
 | _=>false
def aP0:Sp3:=fun δ Q _=>match δ with
 | [.d x]=>(tyN x).isSome=true∧Q (.d (.bl (isW x))) none
 | _=>False
def aj1:Sp3:=fun δ Q _=>match δ with
 | [.d (.int a),.d (.int b)]=>Q (.d (.int (gcd a b))) none
 | _=>False
section
variable {P:Program}{w:World}{K:PySem.W.Frag}{mg:Str→Option Value}{base:Heap}{f:Addr}{fd:FuncData}
theorem scWholeP:FnScope ["thing"] ["thing"] (aa2 as2):=⟨rfl,rfl,rfl,by decide +kernel,rfl,by decide +kernel,by decide +kernel⟩
theorem bs1 (F:Fun K "is_whole" "is_whole" as2 f fd)(T:Bt mg):FnOk P w K mg base (CX1 P w) 1 f fd ["thing"] (lsp K aP0):=by
 refine ok3 F scWholeP (fun δ Q Z h=>ln_d h) fun cdv A outer s H E hr=>?_
 have nd:=scWholeP.nd
 refine⟨_,(aa9 (ac3 (D3.toE (bC6 (bp0 0 rfl T.isinstance rfl T.int boot_int) (bi2 (bZ5 (bp0 0 rfl T.isinstance rfl T.bool boot_bool))))))),fun δ Q Z h=>?_⟩
 obtain⟨x,rfl,h1,q⟩:=iv_d h
 cases x <;> first | exact q | cases h1
theorem scDivisor:FnScope ["one","other"] ["one","other"] (aa2 ao3):=⟨rfl,rfl,rfl,by decide +kernel,rfl,by decide +kernel,by decide +kernel⟩
theorem bj7 (F:Fun K "common_divisor" "common_divisor" ao3 f fd)(T:Bt mg):FnOk P w K mg base (CX1 P w) 1 f fd ["one","other"] (lsp K aj1):=by
 refine ok3 F scDivisor (fun δ Q Z h=>av2 h) fun cdv A outer s H E hr=>?_
 have nd:=scDivisor.nd
 refine⟨_,(aa5 (al0 PassesOwn.leaving (ae7 ay2 r_ne (dv 1) aa4 (ad5 _)) (aa9 (ar4 0 1 rfl (by exact nd) rfl rfl (by decide) rfl rfl (aa0 (dv 1) (aa0 (d_op bF6 bR5 (dv 0) (dv 1)) aa3 Fr.ab7) Fr.aa1)))) (aa9 (ac3 (D3.toE (am7 aI1 aV5 rfl T.abs boot_abs (aa0 (dv 0) aa3 Fr.aa1)))))),fun δ Q Z h=>?_⟩
 obtain⟨a,b,rfl,q⟩:=ar7 h
 refine⟨fun m δ=>∃ x y:Int,δ=[.d (.int x),.d (.int y)]∧gcd x y=gcd a b∧m=y.natAbs,⟨_,a,b,rfl,rfl,rfl⟩,?_⟩
 rintro m δ ⟨x,y,rfl,g,rfl⟩
 walk_at "w"
 refine brn (fun c=>?_) (fun c=>?_)
 ·walk_at "w"
  refine⟨c,_,ba8 c,y,x.fmod y,rfl,?_,rfl⟩
  rw [← g]
  exact bm9 x y
 ·subst c
  have e2:((gcd a b:Nat):Int)=if x < 0 then -x else x:=by
   rw [← g,gcd_zero_right]
   split <;> omega
  have q':Q (.d (.int (gcd a b))) none:=q
  rw [e2] at q'
  exact q'
end
abbrev ao4:Stmt:=top 16
abbrev ah4:Stmt:=top 17
abbrev ao5:Stmt:=top 18
abbrev ax0:Stmt:=inClass (top 19) 0
abbrev bz4:Stmt:=inClass (top 19) 1
abbrev al6:Stmt:=inClass (top 19) 3
abbrev as3:Stmt:=inClass (top 19) 5
abbrev ak0:Stmt:=inClass (top 19) 6
def natD (k:Nat):D:=.int (k:Int)
def prD (p:Nat×Nat):D:=.tup [natD p.1,natD p.2]
def prsD (ps:List (Nat×Nat)):List D:=ps.map prD
def lvl:D→Bool
 | .int i=>decide (1≤i) && decide (i≤48)
 | _=>false
def kyN (p:Nat×Nat):List Key:=[Sum.inl (p.1:Int),Sum.inl (p.2:Int)]
def aG6 (n:Nat)(ss:List (Nat×Nat))(kvs:List (List Key×D)):Prop:=∀ p:Nat×Nat,valD kvs (kyN p)=(ac0 n ss p).map natD
def aY8 (n:Nat)(kvs:List (List Key×D)):Prop:=aG6 n (syms n) kvs
def levF (n:Nat)(kvs:List (List Key×D)):List (Str×D):=[("modulus",natD n),("all_symbols",.lst (prsD (syms n))),("pair_numbers",.dT kvs)]
def ai7 (C:Addr)(n:Nat)(x:D):Prop:=∃ kvs,x=.obj C (levF n kvs)∧aY8 n kvs∧1≤n∧n≤48
structure LevC (K:PySem.W.Frag) (C:Addr):Prop where
 cl:Cls K C
 n_modulus:NoAttr K C "modulus"
 n_all_symbols:NoAttr K C "all_symbols"
 n_pair_numbers:NoAttr K C "pair_numbers"
theorem bz5 {κ:Type}[DecidableEq κ](kvs:List (κ×D))(k j:κ)(x:D):valD (putT kvs k x) j=if j=k then some x else valD kvs j:=by
 have rep:∀ kvs:List (κ×D),valD (kvs.map (fun kv=>if kv.1=k then (kv.1,x) else kv)) j=if j=k then (valD kvs j).map (fun _=>x) else valD kvs j:=by
  intro kvs
  induction kvs with
  | nil=>simp [valD]
  | cons p r ih =>
   obtain⟨a,y⟩:=p
   rw [map_cons]
   by_cases h:a=k
   ·rw [if_pos (show (a,y).1=k from h)]
    show (if a=j then some x else valD _ j)=_
    by_cases hj:a=j
    ·rw [if_pos hj]
     have:j=k:=by rw [← hj,h]
     rw [if_pos this]
     show some x=Option.map _ (if a=j then some y else valD r j)
     rw [if_pos hj]
     rfl
    ·rw [if_neg hj,ih]
     show _=if j=k then Option.map _ (if a=j then some y else valD r j) else (if a=j then some y else valD r j)
     rw [if_neg hj]
   ·rw [if_neg (show ¬ (a,y).1=k from h)]
    show (if a=j then some y else valD _ j)=_
    by_cases hj:a=j
    ·rw [if_pos hj]
     have:¬ j=k:=by rw [← hj];exact h
     rw [if_neg this]
     show some y=(if a=j then some y else valD r j)
     rw [if_pos hj]
    ·rw [if_neg hj,ih]
     show _=if j=k then Option.map _ (if a=j then some y else valD r j) else (if a=j then some y else valD r j)
     rw [if_neg hj]
 have snoc:∀ kvs:List (κ×D),valD (kvs++[(k,x)]) j=match valD kvs j with
   | some y=>some y
   | none=>if j=k then some x else none:=by
  intro kvs
  induction kvs with
  | nil =>
   show (if k=j then some x else none)=if j=k then some x else none
   by_cases h:k=j
   ·rw [if_pos h,if_pos h.symm]
   ·rw [if_neg h,if_neg (Ne.symm h)]
  | cons p r ih =>
   obtain⟨a,y⟩:=p
   show (if a=j then some y else valD (r++[(k,x)]) j)=match (if a=j then some y else valD r j) with
    | some y=>some y
    | none=>if j=k then some x else none
   by_cases h:a=j
   ·rw [if_pos h,if_pos h]
   ·rw [if_neg h,if_neg h,ih]
 unfold putT
 by_cases h:(valD kvs k).isSome=true
 ·rw [if_pos h,rep]
  by_cases hj:j=k
  ·rw [if_pos hj,if_pos hj,hj]
   obtain⟨y,e⟩:=Option.isSome_iff_exists.mp h
   rw [e]
   rfl
  ·rw [if_neg hj,if_neg hj]
 ·rw [if_neg h,snoc]
  by_cases hj:j=k
  ·rw [if_pos hj,hj]
   have:valD kvs k=none:=by
    cases e:valD kvs k with
    | none=>rfl
    | some y=>rw [e] at h;exact absurd rfl h
   rw [this]
   simp
  ·rw [if_neg hj]
   cases valD kvs j <;> simp [hj]
theorem bz6 {κ:Type}[DecidableEq κ](kvs:List (κ×D))(k:κ)(x:D):(putT kvs k x).length≤kvs.length+1:=by
 unfold putT
 split
 ·simp
 ·simp
def putAll (n:Nat)(p:Nat×Nat)(i:D):List Nat→List (List Key×D)→List (List Key×D)
 | [],kvs=>kvs
 | k::ks,kvs=>putAll n p i ks (putT kvs (kyN (act n k p)) i)
theorem bL6 {p q:Nat×Nat}(h:kyN p=kyN q):p=q:=by
 unfold kyN at h
 injection h with h1 h2
 injection h2 with h2 _
 injection h1 with h1
 injection h2 with h2
 exact Prod.ext (by omega) (by omega)
theorem aM7 (n:Nat)(p:Nat×Nat)(i:D)(q:Nat×Nat):∀ (ks:List Nat) (kvs:List (List Key×D)),valD (putAll n p i ks kvs) (kyN q)=if (ks.map fun k=>act n k p).contains q=true then some i else valD kvs (kyN q)
 | [],kvs=>by simp [putAll]
 | k::ks,kvs=>by
  show valD (putAll n p i ks (putT kvs (kyN (act n k p)) i)) (kyN q)=_
  rw [aM7 n p i q ks,bz5]
  by_cases h:act n k p=q
  ·subst h
   simp
  ·have h1:¬ kyN q=kyN (act n k p):=fun z=>h (bL6 z).symm
   rw [if_neg h1,map_cons,List.contains_cons]
   have:(q == act n k p)=false:=by simpa using fun z=>h z.symm
   rw [this,Bool.false_or]
theorem aA3 (n:Nat)(p:Nat×Nat)(i:D):∀ (ks:List Nat) (kvs:List (List Key×D)),(putAll n p i ks kvs).length≤kvs.length+ks.length
 | [],kvs=>le_refl _
 | k::ks,kvs=>by
  have h1:=aA3 n p i ks (putT kvs (kyN (act n k p)) i)
  have h2:=bz6 kvs (kyN (act n k p)) i
  show (putAll n p i ks (putT kvs (kyN (act n k p)) i)).length≤kvs.length+(ks.length+1)
  omega
theorem bg3 (n:Nat):(fac n).length≤n:=by
 unfold fac
 exact le_trans (length_filter_le _ _) (by simp)
theorem au3 (n t:Nat):(symT n t).length≤t:=by
 unfold symT
 exact le_trans (length_filter_le _ _) (by simp)
theorem bz7 {n t:Nat}(hn:1≤n)(h48:n≤48)(ht:t < n*n)(l:ae5 n (prs n t)=true){kvs:List (List Key×D)}(h:aG6 n (symT n t) kvs):aG6 n (symT n (t+1)) (putAll n (prs n t) (natD (symT n t).length) (fac n) kvs):=by
 intro q
 rw [aM7,al3,if_pos l,bi9 (bT3 hn h48 ht l q),h q]
 show (if (orb n (prs n t)).contains q=true then _ else _)=_
 by_cases c:(orb n (prs n t)).contains q=true
 ·rw [if_pos c,if_pos c];rfl
 ·rw [if_neg c,if_neg c]
theorem aY9 {n t:Nat}(l:¬ ae5 n (prs n t)=true){kvs:List (List Key×D)}(h:aG6 n (symT n t) kvs):aG6 n (symT n (t+1)) kvs:=by
 rw [al3,if_neg l,append_nil]
 exact h
theorem bL7 {x:D}{lo:Int}{n:Nat}(h:x∈rngD lo n):∃ k:Int,x=.int k:=by
 unfold rngD at h
 obtain⟨i,_,e⟩:=mem_map.mp h
 exact⟨_,e.symm⟩
def fcF (n:Nat):D→Option D
 | .int i=>if gcd i n=1 then some (.int i) else none
 | _=>none
theorem facD (n:Nat):(rngD 1 n).filterMap (fcF n)=(fac n).map natD:=by
 unfold rngD fac
 rw [filterMap_map,← List.filterMap_eq_filter,map_filterMap,filterMap_map]
 congr 1
 funext i
 show (if gcd (1+(i:Int)) n=1 then some (D.int (1+(i:Int))) else none)=_
 have e:gcd (1+(i:Int)) n=Nat.gcd (i+1) n:=by
  rw [Int.add_comm]
  rfl
 rw [e]
 have e2:(1:Int)+(i:Int)=((i+1:Nat):Int):=by omega
 rw [e2]
 by_cases c:Nat.gcd (i+1) n=1
 ·simp [c,natD,Option.guard]
 ·simp [c,Option.guard]
theorem putAll_snoc (n:Nat)(p:Nat×Nat)(i:D)(k:Nat):∀ (ks:List Nat) (kvs:List (List Key×D)),putAll n p i (ks++[k]) kvs=putT (putAll n p i ks kvs) (kyN (act n k p)) i
 | [],_=>rfl
 | _::ks,kvs=>putAll_snoc n p i k ks _
theorem take_snoc {α:Type}{l:List α}{i:Nat}{x:α}(h:l[i]?=some x):l.take (i+1)=l.take i++[x]:=by
 rw [List.take_add_one,h]
 rfl
def bE5 (n t:Nat)(s4:Sl)(δ:List Sl):Prop:=∃ s1 kvs s5 s6,δ=[.d (natD n),s1,.own (.lst (prsD (symT n t))),.own (.dT kvs),s4,s5,s6]∧(s1=.own (.lst ((fac n).map natD))∨s1=.d (.lst ((fac n).map natD)))∧aG6 n (symT n t) kvs∧kvs.length≤t*n
def aE1:Sp3:=fun δ Q _=>match δ with
 | [.d x]=>(tyN x).isSome=true∧Q (.d (.bl (lvl x))) none
 | _=>False
def ar2 (gN:Addr):Sp3:=fun δ Q Z=>match δ with
 | [.d x]=>(tyN x).isSome=true∧(lvl x=true→Q (.d x) none)∧(lvl x=false→Z gN none)
 | _=>False
def aJ0:Sp3:=fun δ Q _=>match δ with
 | [.d (.int i)]=>∃ n:Nat,i=n∧1≤n∧n≤48∧∀ kvs ob,aY8 n kvs→Q (.d (.tup [.lst (prsD (syms n)),.dT kvs])) ob
 | _=>False
def aP1 (C gN:Addr):Sp3:=fun δ Q Z=>match δ with
 | [.bor (.ins C' []),.d x]=>C'=C∧(tyN x).isSome=true∧(∀ n:Nat,x=natD n→1≤n→n≤48→∀ kvs,aY8 n kvs→Q (.d .non) (some (.ins C (levF n kvs))))∧(lvl x=false→∀ ob,Z gN ob)
 | _=>False
def am5 (C:Addr):Sp3:=fun δ Q _=>match δ with
 | [.d x]=>∃ n,ai7 C n x∧Q (.own (.lst (prsD (syms n)))) none
 | _=>False
def rst (n:Nat)(u v:Int):Nat×Nat:=((u % n).toNat,(v % n).toNat)
def aJ1 (C:Addr):Sp3:=fun δ Q _=>match δ with
 | [.d x,.d (.int u),.d (.int v)]=>∃ n,ai7 C n x∧Q (.d (.bl (ac0 n (syms n) (rst n u v)).isSome)) none
 | _=>False
def ah1 (C gS:Addr):Sp3:=fun δ Q Z=>match δ with
 | [.d x,.d (.int u),.d (.int v)]=>∃ n,ai7 C n x∧(∀ i,ac0 n (syms n) (rst n u v)=some i→Q (.d (natD i)) none)∧(ac0 n (syms n) (rst n u v)=none→Z gS none)
 | _=>False
section
variable {P:Program}{w:World}{K:PySem.W.Frag}{mg:Str→Option Value}{base:Heap}{f:Addr}{fd:FuncData}
theorem scIsLevel:FnScope ["thing"] ["thing"] (aa2 ao4):=⟨rfl,rfl,rfl,by decide +kernel,rfl,by decide +kernel,by decide +kernel⟩
theorem bj8 (F:Fun K "is_level" "is_level" ao4 f fd)(T:Bt mg){tk:Tok}(mL:mg "LAST_LEVEL"=some (.int 48 tk))(Ois_whole:Own3 P w K mg base 1 "is_whole" ["thing"] aP0):FnOk P w K mg base (CX1 P w) 2 f fd ["thing"] (lsp K aE1):=by
 refine ok3 F scIsLevel (fun δ Q Z h=>ln_d h) fun cdv A outer s H E hr=>?_
 have nd:=scIsLevel.nd
 refine⟨_,(aa9 (ac3 (D3.toE (bC6 (E3.toD (ab0 Ois_whole Fr.aa6 hr rfl (aa0 (dv 0) aa3 Fr.aa1))) (bi2 (bH8 bC1 bC1 r_le r_le aa4 (dv 0) (bI8 rfl mL))))))),fun δ Q Z h=>?_⟩
 obtain⟨x,rfl,h1,q⟩:=iv_d h
 cases x with
 | int i =>
  refine⟨rfl,?_⟩
  walk_at "w"
  refine brd (fun c=>?_) (fun c=>?_)
  ·walk_at "w"
   have e:lvl (.int i)=decide (i≤48):=by show (decide (1≤i) && decide (i≤48))=_;rw [decide_eq_true c];rfl
   rw [e] at q
   exact q
  ·walk_at "w"
   have e:lvl (.int i)=false:=by show (decide (1≤i) && decide (i≤48))=_;rw [decide_eq_false c];rfl
   rw [e] at q
   exact q
 | _=>first | exact⟨rfl,q⟩ | cases h1
theorem scLevelNumber:FnScope ["thing"] ["thing"] (aa2 ah4):=⟨rfl,rfl,rfl,by decide +kernel,rfl,by decide +kernel,by decide +kernel⟩
theorem aP2 (F:Fun K "level_number" "level_number" ah4 f fd)(T:Bt mg){gN:Addr}(m_NoLevel:mg "NoLevel"=some (.ref gN))(q_NoLevel:excIn K gN bmVE "ValueError.__new__"=true)(Ois_level:Own3 P w K mg base 2 "is_level" ["thing"] aE1) :
  FnOk P w K mg base (CX1 P w) 3 f fd ["thing"] (lsp K (ar2 gN)):=by
 refine ok3 F scLevelNumber (fun δ Q Z h=>ln_d h) fun cdv A outer s H E hr=>?_
 have nd:=scLevelNumber.nd
 refine⟨_,(aa5 (s_if (aT5 (aT4 (E3.toD (ab0 Ois_level Fr.aa6 hr rfl (aa0 (dv 0) aa3 Fr.aa1))))) (aa9 (be1 rfl m_NoLevel q_NoLevel (aa0 bC5 aa3 Fr.aa7))) ah7) (aa9 (ac3 (af9 0)))),fun δ Q Z h=>?_⟩
 obtain⟨x,rfl,h1,q,z⟩:=iv_d h
 refine⟨h1,?_⟩
 walk_at "w"
 refine br (fun c=>?_) (fun c=>?_)
 ·have c':lvl x=false:=by simpa using c
  exact z c'
 ·have c':lvl x=true:=by simpa using c
  exact q c'
theorem scSymNum:FnScope ["n","factors","symbols","numbers","u","v","k"] ["n"] (aa2 ao5):=⟨rfl,rfl,rfl,by decide +kernel,rfl,by decide +kernel,by decide +kernel⟩
theorem bs2 (F:Fun K "symbols_numbered" "symbols_numbered" ao5 f fd)(T:Bt mg)(Ocommon_divisor:Own3 P w K mg base 1 "common_divisor" ["one","other"] aj1):FnOk P w K mg base (CX1 P w) 2 f fd ["n"] (lsp K aJ0):=by
 refine ok3 F scSymNum (fun δ Q Z h=>ln_i h) fun cdv A outer s H E hr=>?_
 have nd:=scSymNum.nd
 have hu:=ai3 hr
 refine⟨_,(aa5 (aC8 1 (by exact nd) rfl (Or.inl rfl) rfl (I3.toC (bw0 rfl T.range (aa0 aa4 (aa0 (d_op ac7 ad2 (dv 0) aa4) aa3 Fr.ab7) Fr.aa7))) (Fr.ah9 (xs:=["k"]) (fr:=[("n",0)]) (sc:=aa2 ao5) (N:=["n","factors","symbols","numbers","u","v","k"]) rfl rfl (by decide +kernel)) (fun _ _ _ _=>(ab3 0 (show Nodup [("k" : Str),("n" : Str)] by decide +kernel) rfl (Or.inl rfl))) (fun _ _ _ _=>aL3 rfl (D3.toE (dv 0)) (ae7 au7 r_eq (E3.toD (ab0 Ocommon_divisor Fr.aF3 hr rfl (aa0 (dv 0) (aa0 (dv 1) aa3 Fr.aa1) Fr.aa1))) aa4 (ad5 _)))) (aa5 (ab8 2 (by exact nd) rfl (Or.inl rfl) (ae4 aa3)) (aa5 (ab8 3 (by exact nd) rfl (Or.inl rfl) bI5) (aa5 (af5 PassesOwn.leaving rfl (am8 rfl T.range (aa0 (dv 0) aa3 Fr.aa1)) (ab3 4 (by exact nd) rfl (Or.inl rfl)) (aa9 (af5 PassesOwn.leaving rfl (am8 rfl T.range (aa0 (dv 0) aa3 Fr.aa1)) (ab3 5 (by exact nd) rfl (Or.inl rfl)) (aa9 (s_if (W3.toC (w_and (c_pc (bw2 3 hu (aa0 (dv 4) (aa0 (dv 5) aa3 Fr.aa1) Fr.aa1)) rfl) (bR4 (ae7 au7 r_eq (E3.toD (ab0 Ocommon_divisor Fr.aa6 hr rfl (aa0 (E3.toD (ab0 Ocommon_divisor Fr.aa6 hr rfl (aa0 (dv 4) (aa0 (dv 5) aa3 Fr.aa1) Fr.aa1))) (aa0 (dv 0) aa3 Fr.aa1) Fr.ac2))) aa4 (ad5 _))))) (aa5 (af5 PassesOwn.leaving rfl (af4 (dv 1)) (ab3 6 (by exact nd) rfl (Or.inl rfl)) (aa9 (bS4 3 hu (aa0 (d_op ae1 af3 (d_op Fr.ac1 ac9 (dv 6) (dv 4)) (dv 0)) (aa0 (d_op ae1 af3 (d_op Fr.ac1 ac9 (dv 6) (dv 5)) (dv 0)) aa3 Fr.ab7) Fr.ab7) (ag7 2 rfl T.len)))) (aa9 (ag4 2 (ad1 (aa0 (dv 4) (aa0 (dv 5) aa3 Fr.aa1) Fr.aa1))))) ah7))))) (aa9 (ac3 (D3.toE (ad1 (aa0 (dv 2) (aa0 (dv 3) aa3 Fr.aa1) Fr.aa1))))))))),fun δ Q Z h=>?_⟩
 obtain⟨i,rfl,n,e,n1,n2,q⟩:=iv_i h
 subst e
 walk_at "w"
 refine⟨⟨⟨by decide,by decide⟩,⟨by omega,by omega⟩⟩,?_⟩
 walk_at "w"
 have en:((n:Int)+1 - 1).toNat=n:=by omega
 rw [en]
 refine⟨by rw [ah8];omega,ai1 (l:=[.d (.int (n:Int))]) rfl (fcF n) (fun x hx P p=>?_) ?_⟩
 ·obtain⟨k,rfl⟩:=bL7 hx
  walk_at "w"
  refine brd (fun c=>?_) (fun c=>?_)
  ·have c':gcd k n=1:=by omega
   have e:fcF n (.int k)=some (.int k):=if_pos c'
   rw [e] at p
   exact p
  ·have c':¬ gcd k n=1:=by omega
   have e:fcF n (.int k)=none:=if_neg c'
   rw [e] at p
   exact p
 rw [facD]
 walk_at "w"
 refine⟨⟨by omega,by omega⟩,?_⟩
 have en2:((n:Int)).toNat=n:=by omega
 dsimp only
 rw [en2]
 have len48:n*n*n≤110592:=by
  have h1:n*n≤48*48:=mul_le_mul n2 n2
  exact le_trans (mul_le_mul h1 n2) (by decide)
 have nn:n*n≤2304:=mul_le_mul n2 n2
 refine ar6 (fun u δ=>∃ s4,bE5 n (u*n) s4 δ) ⟨.un,.own (.lst ((fac n).map natD)),[],.un,.un,(by rw [zero_mul];rfl),.inl rfl,(by rw [zero_mul];exact fun p=>rfl),(by simp)⟩ ?_ ?_
 ·rintro u δ N hu' ⟨s4,s1,kvs,s5,s6,rfl,hs1,hk,hl⟩ hN
  rw [zero_add]
  walk_at "w"
  refine⟨⟨by omega,by omega⟩,?_⟩
  dsimp only
  rw [en2]
  refine ar6 (fun v δ=>bE5 n (u*n+v) (.d (natD u)) δ) ⟨_,kvs,_,_,rfl,hs1,hk,hl⟩ ?_ ?_
  ·rintro v δ N2 hv ⟨s1,kvs,s5,s6,rfl,hs1,hk,hl⟩ hN2
   rw [zero_add]
   have ht:u*n+v < n*n:=by
    have:(u+1)*n≤n*n:=mul_le_mul_right n hu'
    rw [add_mul,one_mul] at this
    omega
   have ep:prs n (u*n+v)=(u,v):=aF9 (n:=n) (p:=(u,v)) ⟨hu',hv⟩
   have hnew:=bJ6 n1 n2 ht
   rw [ep] at hnew
   have hval:=hk (u,v)
   have lsym:=au3 n (u*n+v)
   have ltn:(u*n+v)*n≤n*n*n:=mul_le_mul_right n (le_of_lt ht)
   walk_at "w"
   refine br (fun c1=>?_) (fun c1=>?_)
   ·have c1':ac0 n (symT n (u*n+v)) (u,v)=none:=by
     cases e:ac0 n (symT n (u*n+v)) (u,v) with
     | none=>rfl
     | some j =>
      rw [e] at hval
      have c2:(!(valD kvs (kyN (u,v))).isSome)=true:=c1
      rw [hval] at c2
      cases c2
    walk_at "w"
    refine brd (fun c2=>?_) (fun c2=>?_)
    ·have g:good n (u,v)=true:=by
      have:Nat.gcd (Nat.gcd u v) n=1:=by
       have z:((gcd ((gcd (u:Int) (v:Int):Nat):Int) (n:Int):Nat):Int)=1:=c2
       have z2:gcd ((gcd (u:Int) (v:Int):Nat):Int) (n:Int)=1:=by omega
       exact z2
      unfold good
      simpa using this
     have l:=hnew.mp ⟨by rw [c1'];rfl,g⟩
     have knew:=bz7 n1 n2 ht (by rw [ep];exact l) hk
     rw [ep] at knew
     have hs1':∃ δ0:List Sl,δ0=[.d (natD n),.d (.lst ((fac n).map natD)),.own (.lst (prsD (symT n (u*n+v)))),.own (.dT kvs),.d (natD u),.d (natD v),s6]∧(∀ Qf:List D→List Sl→Prop,Qf ((fac n).map natD) δ0→tIL (tN 1) (fun C δ'=>Z C (aq4 δ')) [.d (natD n),s1,.own (.lst (prsD (symT n (u*n+v)))),.own (.dT kvs),.d (natD u),.d (natD v),s6] Qf):=by
      refine⟨_,rfl,fun Qf h=>?_⟩
      rcases hs1 with rfl | rfl <;> exact h
     obtain⟨δ0,e0,hI⟩:=hs1'
     refine hI _ ?_
     subst e0
     refine ae0 (fun i δ=>∃ s6,δ=[.d (natD n),.d (.lst ((fac n).map natD)),.own (.lst (prsD (symT n (u*n+v)))),.own (.dT (putAll n (u,v) (natD (symT n (u*n+v)).length) ((fac n).take i) kvs)),.d (natD u),.d (natD v),s6]) ⟨_,rfl⟩ ?_ ?_
     ·rintro i x δ N3 hx ⟨s6,rfl⟩ hN3
      rw [getElem?_map] at hx
      obtain⟨k,hk1,rfl⟩:=Option.map_eq_some_iff.mp hx
      have lt:=(List.getElem?_eq_some_iff.mp hk1).1
      have kf:=fac_mem.mp (mem_of_getElem? hk1)
      walk_at "w"
      refine⟨⟨fitN (by omega),fitN (by omega)⟩,?_⟩
      walk_at "w"
      refine⟨(by show (0:Int) < (n:Int);omega),?_⟩
      walk_at "w"
      refine⟨⟨fitN (by omega),fitN (by omega)⟩,?_⟩
      walk_at "w"
      refine⟨(by show (0:Int) < (n:Int);omega),?_⟩
      walk_at "w"
      have fl:=bg3 n
      refine⟨?_,hN3 _ ⟨.d (natD k),?_⟩⟩
      ·have:=aA3 n (u,v) (natD (symT n (u*n+v)).length) ((fac n).take i) kvs
       rw [length_take] at this
       omega
      ·have et:(fac n).take (i+1)=(fac n).take i++[k]:=take_snoc hk1
       rw [et,putAll_snoc]
       have el:(prsD (symT n (u*n+v))).length=(symT n (u*n+v)).length:=length_map _
       rw [← el]
       rfl
     ·rintro δ ⟨s6,rfl⟩
      rw [length_map,take_length]
      walk_at "w"
      have el:(prsD (symT n (u*n+v))).length=(symT n (u*n+v)).length:=length_map _
      have es:symT n (u*n+v+1)=symT n (u*n+v)++[(u,v)]:=by rw [al3,ep,if_pos l]
      refine⟨by have:=el;omega,hN2 _ ⟨.d (.lst ((fac n).map natD)),putAll n (u,v) (natD (symT n (u*n+v)).length) (fac n) kvs,.d (natD v),s6,?_,.inr rfl,knew,?_⟩⟩
      ·show _=[_,_,Sl.own (Ob.lst (prsD (symT n (u*n+v+1)))),_,_,_,_]
       rw [es]
       unfold prsD
       rw [map_append]
       rfl
      ·have:=aA3 n (u,v) (natD (symT n (u*n+v)).length) (fac n) kvs
       have:=bg3 n
       show _≤(u*n+v+1)*n
       rw [add_mul (u*n+v) 1 n]
       omega
    ·have l:¬ ae5 n (u,v)=true:=fun z=>by
      have g:=(hnew.mpr z).2
      unfold good at g
      have g':Nat.gcd (Nat.gcd u v) n=1:=by simpa using g
      apply c2
      show ((gcd ((gcd (u:Int) (v:Int):Nat):Int) (n:Int):Nat):Int)=1
      have z2:gcd ((gcd (u:Int) (v:Int):Nat):Int) (n:Int)=1:=g'
      rw [z2]
      rfl
     refine hN2 _ ⟨s1,kvs,.d (natD v),s6,?_,hs1,aY9 (t:=u*n+v) (by rw [ep];exact l) hk,?_⟩
     ·show _=[_,_,Sl.own (Ob.lst (prsD (symT n (u*n+v+1)))),_,_,_,_]
      rw [al3,ep,if_neg l,append_nil]
      rfl
     ·show _≤(u*n+v+1)*n
      rw [add_mul (u*n+v) 1 n]
      omega
   ·have l:¬ ae5 n (u,v)=true:=fun z=>by
     have g:=(hnew.mpr z).1
     have g2:ac0 n (symT n (u*n+v)) (u,v)=none:=by simpa using g
     rw [g2] at hval
     have c2:(!(valD kvs (kyN (u,v))).isSome)=false:=c1
     rw [hval] at c2
     cases c2
    refine hN2 _ ⟨s1,kvs,.d (natD v),s6,?_,hs1,aY9 (t:=u*n+v) (by rw [ep];exact l) hk,?_⟩
    ·show _=[_,_,Sl.own (Ob.lst (prsD (symT n (u*n+v+1)))),_,_,_,_]
     rw [al3,ep,if_neg l,append_nil]
     rfl
    ·show _≤(u*n+v+1)*n
     rw [add_mul (u*n+v) 1 n]
     omega
  ·rintro δ h
   refine hN _ ⟨.d (natD u),?_⟩
   rw [add_mul,one_mul]
   exact h
 ·rintro δ ⟨s4,s1,kvs,s5,s6,rfl,hs1,hk,hl⟩
  exact q kvs _ hk
theorem scLInit:FnScope ["self","n"] ["self","n"] (aa2 ax0):=⟨rfl,rfl,rfl,by decide +kernel,rfl,by decide +kernel,by decide +kernel⟩
theorem bL8 {x:D}(h:lvl x=true):∃ n:Nat,x=natD n∧1≤n∧n≤48:=by
 cases x with
 | int i =>
  have h':(decide (1≤i) && decide (i≤48))=true:=h
  simp only [Bool.and_eq_true,decide_eq_true_eq] at h'
  refine⟨i.toNat,?_,by omega,by omega⟩
  unfold natD
  congr 1
  omega
 | _=>cases h
theorem bz8 (F:Fun K "__init__" "Level.__init__" ax0 f fd)(T:Bt mg){C gN:Addr}(TLevel:LevC K C)(Olevel_number:Own3 P w K mg base 3 "level_number" ["thing"] (ar2 gN))(Osymbols_numbered:Own3 P w K mg base 3 "symbols_numbered" ["n"] aJ0) :
  FnOk P w K mg base (CX1 P w) 4 f fd ["self","n"] (lsp K (aP1 C gN)):=by
 refine ok3 F scLInit (fun δ Q Z h=>match δ,h with | [.bor (.ins C' []),.d x],_=>rfl) fun cdv A outer s H E hr=>?_
 have nd:=scLInit.nd
 refine⟨_,(aa5 (aL0 0 TLevel.cl TLevel.n_modulus (E3.toD (ab0 Olevel_number Fr.aa6 hr rfl (aa0 (dv 1) aa3 Fr.aa1)))) (aa9 (aq2 (E3.toD (ab0 Osymbols_numbered Fr.aa6 hr rfl (aa0 (ae9 0 TLevel.cl TLevel.n_modulus) aa3))) (ae8 (n:=2) rfl (ab6 (bD3 0 TLevel.cl TLevel.n_all_symbols) (ab6 (bD3 0 TLevel.cl TLevel.n_pair_numbers) ad9)))))),fun δ Q Z h=>?_⟩
 match δ,h with
 | [.bor (.ins C' []),.d x],⟨e,h1,q,z⟩ =>
  subst e
  refine⟨h1,fun hl=>?_,fun hl=>z hl _⟩
  obtain⟨n,rfl,n1,n2⟩:=bL8 hl
  walk_at "w"
  refine⟨rfl,by decide,rfl,natD n,rfl,n,rfl,n1,n2,fun kvs ob hk=>?_⟩
  walk_at "w"
  refine⟨rfl,(show 1 < 100 by decide),?_⟩
  walk_at "w"
  refine⟨rfl,(show 2 < 100 by decide),?_⟩
  exact q n rfl n1 n2 kvs hk
theorem cc2:FnScope ["self"] ["self"] (aa2 bz4):=⟨rfl,rfl,rfl,by decide +kernel,rfl,by decide +kernel,by decide +kernel⟩
theorem scLSymbols:FnScope ["self"] ["self"] (aa2 al6):=⟨rfl,rfl,rfl,by decide +kernel,rfl,by decide +kernel,by decide +kernel⟩
theorem bb4 (F:Fun K "symbols" "Level.symbols" al6 f fd)(T:Bt mg){C:Addr}(TLevel:LevC K C):FnOk P w K mg base (CX1 P w) 1 f fd ["self"] (lsp K (am5 C)):=by
 refine ok3 F scLSymbols (fun δ Q Z h=>ln_d h) fun cdv A outer s H E hr=>?_
 have nd:=scLSymbols.nd
 refine⟨_,(aa9 (ac3 (aC4 at1 aV9 rfl T.list boot_list (aa0 (ae9 0 TLevel.cl TLevel.n_all_symbols) aa3)))),fun δ Q Z h=>?_⟩
 obtain⟨x,rfl,n,hx,q⟩:=iv_d h
 obtain⟨kvs,rfl,hk,n1,n2⟩:=hx
 exact⟨rfl,.lst (prsD (syms n)),rfl,q⟩
theorem scLTells:FnScope ["self","u","v"] ["self","u","v"] (aa2 as3):=⟨rfl,rfl,rfl,by decide +kernel,rfl,by decide +kernel,by decide +kernel⟩
theorem bg4 {n:Nat}(n1:1≤n)(u v:Int):([Sum.inl (u % (n:Int)),Sum.inl (v % (n:Int))]:List Key)=kyN (rst n u v):=by
 have h1:=emod_nonneg u (show (n:Int)≠0 by omega)
 have h2:=emod_nonneg v (show (n:Int)≠0 by omega)
 unfold kyN rst
 dsimp only
 rw [Int.toNat_of_nonneg h1,Int.toNat_of_nonneg h2]
theorem bs3 (F:Fun K "tells" "Level.tells" as3 f fd)(T:Bt mg){C:Addr}(TLevel:LevC K C):FnOk P w K mg base (CX1 P w) 1 f fd ["self","u","v"] (lsp K (aJ1 C)):=by
 refine ok3 F scLTells (fun δ Q Z h=>aW7 h) fun cdv A outer s H E hr=>?_
 have nd:=scLTells.nd
 have hu:=ai3 hr
 refine⟨_,(aa9 (ac3 (D3.toE (d_pc (bS3 hu (aa0 (d_op ae1 af3 (dv 1) (ae9 0 TLevel.cl TLevel.n_modulus)) (aa0 (d_op ae1 af3 (dv 2) (ae9 0 TLevel.cl TLevel.n_modulus)) aa3 Fr.ab7) Fr.ab7) (ae9 0 TLevel.cl TLevel.n_pair_numbers)) rfl)))),fun δ Q Z h=>?_⟩
 obtain⟨x,u,v,rfl,n,hx,q⟩:=aL6 h
 obtain⟨kvs,rfl,hk,n1,n2⟩:=hx
 refine⟨rfl,natD n,rfl,(by show (0:Int) < (n:Int);omega),?_⟩
 walk_at "w"
 refine⟨rfl,natD n,rfl,(by show (0:Int) < (n:Int);omega),?_⟩
 walk_at "w"
 refine⟨rfl,.dT kvs,rfl,?_⟩
 have e:=hk (rst n u v)
 rw [← bg4 n1] at e
 show Q (Rv.d (D.bl (valD kvs [Sum.inl (u % (n:Int)),Sum.inl (v % (n:Int))]).isSome)) none
 rw [e,Option.isSome_map]
 exact q
theorem scLNumberOf:FnScope ["self","u","v"] ["self","u","v"] (aa2 ak0):=⟨rfl,rfl,rfl,by decide +kernel,rfl,by decide +kernel,by decide +kernel⟩
theorem aZ0 (F:Fun K "number_of" "Level.number_of" ak0 f fd)(T:Bt mg){C gS:Addr}(TLevel:LevC K C)(m_NoSymbol:mg "NoSymbol"=some (.ref gS))(q_NoSymbol:excIn K gS bmVE "ValueError.__new__"=true)(MLevel_tells:MtOk P w K mg base 1 C "tells" ["self","u","v"] (aJ1 C)) :
  FnOk P w K mg base (CX1 P w) 2 f fd ["self","u","v"] (lsp K (ah1 C gS)):=by
 refine ok3 F scLNumberOf (fun δ Q Z h=>aW7 h) fun cdv A outer s H E hr=>?_
 have nd:=scLNumberOf.nd
 have hu:=ai3 hr
 refine⟨_,(aa5 (s_if (aT5 (aT4 (E3.toD (aj0 MLevel_tells Fr.aa6 hr (dv 0) (aa0 (dv 1) (aa0 (dv 2) aa3 Fr.aa1) Fr.aa1))))) (aa9 (be1 rfl m_NoSymbol q_NoSymbol (aa0 bC5 aa3 Fr.aa7))) ah7) (aa9 (ac3 (D3.toE (bI7 hu (ae9 0 TLevel.cl TLevel.n_pair_numbers) (aa0 (d_op ae1 af3 (dv 1) (ae9 0 TLevel.cl TLevel.n_modulus)) (aa0 (d_op ae1 af3 (dv 2) (ae9 0 TLevel.cl TLevel.n_modulus)) aa3 Fr.ab7) Fr.ab7)))))),fun δ Q Z h=>?_⟩
 obtain⟨x,u,v,rfl,n,hx,q,z⟩:=aL6 h
 obtain⟨kvs,rfl,hk,n1,n2⟩:=id hx
 refine⟨⟨rfl,rfl⟩,n,hx,?_⟩
 walk_at "w"
 cases e:ac0 n (syms n) (rst n u v) with
 | none =>
  exact z e
 | some i =>
  have ek:=hk (rst n u v)
  rw [← bg4 n1,e] at ek
  refine⟨rfl,.dT kvs,rfl,rfl,natD n,rfl,(by show (0:Int) < (n:Int);omega),?_⟩
  walk_at "w"
  refine⟨rfl,natD n,rfl,(by show (0:Int) < (n:Int);omega),?_⟩
  walk_at "w"
  exact⟨natD i,ek,q i e⟩
end
def ldM (n:Nat)(a b c d:Int)(s:Nat×Nat):Nat:=(ac0 n (syms n) (rsT n (s.1*a+s.2*c) (s.1*b+s.2*d))).getD 0
def ldL (n:Nat)(a b c d:Int):List Nat:=(syms n).map (ldM n a b c d)
def aa8 (l:List Nat):List D:=l.map natD
theorem aJ2 {n:Nat}(n1:1≤n)(n2:n≤48){a b c d:Int}(hd:gcd (a*d - b*c) n=1){s:Nat×Nat}(hs:s∈syms n):ac0 n (syms n) (rsT n (s.1*a+s.2*c) (s.1*b+s.2*d))=some (ldM n a b c d s):=by
 obtain⟨j,hj⟩:=at8 n1 n2 (aw8 n1 _ _) (ao0 n1 hd (ao1 hs))
 unfold ldM
 rw [hj]
 rfl
theorem ax1 (n:Nat)(u v:Int):rst n u v=rsT n u v:=rfl
section
variable {P:Program}{w:World}{K:PySem.W.Frag}{mg:Str→Option Value}{base:Heap}{f:Addr}{fd:FuncData}
abbrev ao6:Stmt:=top 21
abbrev ao7:Stmt:=top 22
abbrev ao8:Stmt:=top 23
def ao9 (C:Addr):Sp3:=fun δ Q _=>match δ with
 | [.d x]=>∃ n,ai7 C n x∧∀ ob,Q (.own (.lst (aa8 (ldL n 0 (-1) 1 0)))) ob
 | _=>False
def aJ3 (C:Addr):Sp3:=fun δ Q _=>match δ with
 | [.d x]=>∃ n,ai7 C n x∧∀ ob,Q (.own (.lst (aa8 (ldL n 1 1 0 1)))) ob
 | _=>False
def aA4 (C:Addr):Sp3:=fun δ Q _=>match δ with
 | [.d x]=>∃ n,ai7 C n x∧∀ ob,Q (.own (.lst (aa8 (ldL n 1 (-1) 1 0)))) ob
 | _=>False
def hvF (n:Nat)(a b c d:Int):D→D
 | .tup [.int u,.int v]=>.int (((ac0 n (syms n) (rsT n (u*a+v*c) (u*b+v*d))).getD 0:Nat):Int)
 | y=>y
theorem aP3 (n:Nat)(a b c d:Int):(prsD (syms n)).map (hvF n a b c d)=aa8 (ldL n a b c d):=by
 unfold prsD aa8 ldL
 rw [map_map,map_map]
 rfl
theorem scHalves:FnScope ["level"] ["level"] (aa2 ao6):=⟨rfl,rfl,rfl,by decide +kernel,rfl,by decide +kernel,by decide +kernel⟩
theorem bs4 (F:Fun K "halves" "halves" ao6 f fd)(T:Bt mg){C gS:Addr}(TLevel:LevC K C)(MLevel_symbols:MtOk P w K mg base 2 C "symbols" ["self"] (am5 C))(MLevel_number_of:MtOk P w K mg base 2 C "number_of" ["self","u","v"] (ah1 C gS)):FnOk P w K mg base (CX1 P w) 3 f fd ["level"] (lsp K (ao9 C)):=by
 refine ok3 F scHalves (fun δ Q Z h=>ln_d h) fun cdv A outer s H E hr=>?_
 have nd:=scHalves.nd
 have hu:=ai3 hr
 refine⟨_,(aa9 (ac3 (am3 rfl (I3.toC (af4 (E3.toD (aw5 MLevel_symbols Fr.aa6 hr (dv 0))))) (Fr.ah9 (xs:=["u","v"]) (fr:=[("level",0)]) (sc:=aa2 ao6) (N:=["level"]) rfl rfl (by decide +kernel)) (fun _ _ _ _=>(ae8 (n:=2) rfl (ab6 (ab3 0 (show Nodup [("u" : Str),("v" : Str),("level" : Str)] by decide +kernel) rfl (Or.inl rfl)) (ab6 (ab3 1 (show Nodup [("u" : Str),("v" : Str),("level" : Str)] by decide +kernel) rfl (Or.inl rfl)) ad9)))) (fun _ _ _ _=>aq5 rfl (aj0 MLevel_number_of Fr.aF3 hr (dv 2) (aa0 (dv 1) (aa0 (ak3 (dv 0)) aa3 Fr.aw4) Fr.aa1)))))),fun δ Q Z h=>?_⟩
 obtain⟨x,rfl,n,hx,q⟩:=iv_d h
 obtain⟨kvs,rfl,hk,n1,n2⟩:=id hx
 have ln:(prsD (syms n)).length=(syms n).length:=length_map _
 have lb:(syms n).length≤2304:=le_trans (au3 n (n*n)) (mul_le_mul n2 n2)
 walk_at "w"
 refine⟨⟨rfl,rfl⟩,n,hx,?_⟩
 walk_at "w"
 refine⟨by omega,ai2 (l:=[.d (.obj C (levF n kvs))]) rfl (hvF n 0 (-1) 1 0) (fun x hx'=>?_) ?_⟩
 ·unfold prsD at hx'
  obtain⟨s,hs,rfl⟩:=mem_map.mp hx'
  have hm:=aJ2 n1 n2 (a:=0) (b:=-1) (c:=1) (d:=0) (by rw [show (0*0 - -1*1:Int)=1 by decide,gcd_one_left]) hs
  refine⟨natD s.1,natD s.2,rfl,fun P p=>?_⟩
  walk_at "w"
  refine⟨⟨rfl,rfl⟩,n,hx,fun i hi=>?_,fun z=>?_⟩
  ·have e:rst n ((s.2:Nat):Int) (-((s.1:Nat):Int))=rsT n (s.1*0+s.2*1) (s.1*-1+s.2*0):=by
    rw [ax1]
    congr 1 <;> omega
   have hi':ac0 n (syms n) (rst n ((s.2:Nat):Int) (-((s.1:Nat):Int)))=some i:=hi
   rw [e,hm] at hi'
   cases hi'
   exact p
  ·have e:rst n ((s.2:Nat):Int) (-((s.1:Nat):Int))=rsT n (s.1*0+s.2*1) (s.1*-1+s.2*0):=by
    rw [ax1]
    congr 1 <;> omega
   have z':ac0 n (syms n) (rst n ((s.2:Nat):Int) (-((s.1:Nat):Int)))=none:=z
   rw [e,hm] at z'
   cases z'
 ·rw [aP3]
  exact q _
theorem scThirds:FnScope ["level"] ["level"] (aa2 ao7):=⟨rfl,rfl,rfl,by decide +kernel,rfl,by decide +kernel,by decide +kernel⟩
theorem bs5 (F:Fun K "thirds" "thirds" ao7 f fd)(T:Bt mg){C gS:Addr}(TLevel:LevC K C)(MLevel_symbols:MtOk P w K mg base 2 C "symbols" ["self"] (am5 C))(MLevel_number_of:MtOk P w K mg base 2 C "number_of" ["self","u","v"] (ah1 C gS)):FnOk P w K mg base (CX1 P w) 3 f fd ["level"] (lsp K (aA4 C)):=by
 refine ok3 F scThirds (fun δ Q Z h=>ln_d h) fun cdv A outer s H E hr=>?_
 have nd:=scThirds.nd
 have hu:=ai3 hr
 refine⟨_,(aa9 (ac3 (am3 rfl (I3.toC (af4 (E3.toD (aw5 MLevel_symbols Fr.aa6 hr (dv 0))))) (Fr.ah9 (xs:=["u","v"]) (fr:=[("level",0)]) (sc:=aa2 ao7) (N:=["level"]) rfl rfl (by decide +kernel)) (fun _ _ _ _=>(ae8 (n:=2) rfl (ab6 (ab3 0 (show Nodup [("u" : Str),("v" : Str),("level" : Str)] by decide +kernel) rfl (Or.inl rfl)) (ab6 (ab3 1 (show Nodup [("u" : Str),("v" : Str),("level" : Str)] by decide +kernel) rfl (Or.inl rfl)) ad9)))) (fun _ _ _ _=>aq5 rfl (aj0 MLevel_number_of Fr.aF3 hr (dv 2) (aa0 (d_op ac7 ad2 (dv 0) (dv 1)) (aa0 (ak3 (dv 0)) aa3 Fr.aw4) Fr.ab7)))))),fun δ Q Z h=>?_⟩
 obtain⟨x,rfl,n,hx,q⟩:=iv_d h
 obtain⟨kvs,rfl,hk,n1,n2⟩:=id hx
 have ln:(prsD (syms n)).length=(syms n).length:=length_map _
 have lb:(syms n).length≤2304:=le_trans (au3 n (n*n)) (mul_le_mul n2 n2)
 walk_at "w"
 refine⟨⟨rfl,rfl⟩,n,hx,?_⟩
 walk_at "w"
 refine⟨by omega,ai2 (l:=[.d (.obj C (levF n kvs))]) rfl (hvF n 1 (-1) 1 0) (fun x hx'=>?_) ?_⟩
 ·unfold prsD at hx'
  obtain⟨s,hs,rfl⟩:=mem_map.mp hx'
  have hm:=aJ2 n1 n2 (a:=1) (b:=-1) (c:=1) (d:=0) (by rw [show (1*0 - -1*1:Int)=1 by decide,gcd_one_left]) hs
  refine⟨natD s.1,natD s.2,rfl,fun P p=>?_⟩
  walk_at "w"
  refine⟨⟨rfl,rfl⟩,n,hx,fun i hi=>?_,fun z=>?_⟩
  ·have e:rst n (((s.1:Nat):Int)+((s.2:Nat):Int)) (-((s.1:Nat):Int))=rsT n (s.1*1+s.2*1) (s.1*-1+s.2*0):=by
    rw [ax1]
    congr 1 <;> omega
   have hi':ac0 n (syms n) (rst n (((s.1:Nat):Int)+((s.2:Nat):Int)) (-((s.1:Nat):Int)))=some i:=hi
   rw [e,hm] at hi'
   cases hi'
   exact p
  ·have e:rst n (((s.1:Nat):Int)+((s.2:Nat):Int)) (-((s.1:Nat):Int))=rsT n (s.1*1+s.2*1) (s.1*-1+s.2*0):=by
    rw [ax1]
    congr 1 <;> omega
   have z':ac0 n (syms n) (rst n (((s.1:Nat):Int)+((s.2:Nat):Int)) (-((s.1:Nat):Int)))=none:=z
   rw [e,hm] at z'
   cases z'
 ·rw [aP3]
  exact q _
theorem scFollow:FnScope ["level"] ["level"] (aa2 ao8):=⟨rfl,rfl,rfl,by decide +kernel,rfl,by decide +kernel,by decide +kernel⟩
theorem bs6 (F:Fun K "following" "following" ao8 f fd)(T:Bt mg){C gS:Addr}(TLevel:LevC K C)(MLevel_symbols:MtOk P w K mg base 2 C "symbols" ["self"] (am5 C))(MLevel_number_of:MtOk P w K mg base 2 C "number_of" ["self","u","v"] (ah1 C gS)):FnOk P w K mg base (CX1 P w) 3 f fd ["level"] (lsp K (aJ3 C)):=by
 refine ok3 F scFollow (fun δ Q Z h=>ln_d h) fun cdv A outer s H E hr=>?_
 have nd:=scFollow.nd
 have hu:=ai3 hr
 refine⟨_,(aa9 (ac3 (am3 rfl (I3.toC (af4 (E3.toD (aw5 MLevel_symbols Fr.aa6 hr (dv 0))))) (Fr.ah9 (xs:=["u","v"]) (fr:=[("level",0)]) (sc:=aa2 ao8) (N:=["level"]) rfl rfl (by decide +kernel)) (fun _ _ _ _=>(ae8 (n:=2) rfl (ab6 (ab3 0 (show Nodup [("u" : Str),("v" : Str),("level" : Str)] by decide +kernel) rfl (Or.inl rfl)) (ab6 (ab3 1 (show Nodup [("u" : Str),("v" : Str),("level" : Str)] by decide +kernel) rfl (Or.inl rfl)) ad9)))) (fun _ _ _ _=>aq5 rfl (aj0 MLevel_number_of Fr.aF3 hr (dv 2) (aa0 (dv 0) (aa0 (d_op ac7 ad2 (dv 0) (dv 1)) aa3 Fr.ab7) Fr.aa1)))))),fun δ Q Z h=>?_⟩
 obtain⟨x,rfl,n,hx,q⟩:=iv_d h
 obtain⟨kvs,rfl,hk,n1,n2⟩:=id hx
 have ln:(prsD (syms n)).length=(syms n).length:=length_map _
 have lb:(syms n).length≤2304:=le_trans (au3 n (n*n)) (mul_le_mul n2 n2)
 walk_at "w"
 refine⟨⟨rfl,rfl⟩,n,hx,?_⟩
 walk_at "w"
 refine⟨by omega,ai2 (l:=[.d (.obj C (levF n kvs))]) rfl (hvF n 1 1 0 1) (fun x hx'=>?_) ?_⟩
 ·unfold prsD at hx'
  obtain⟨s,hs,rfl⟩:=mem_map.mp hx'
  have hm:=aJ2 n1 n2 (a:=1) (b:=1) (c:=0) (d:=1) (by rw [show (1*1 - 1*0:Int)=1 by decide,gcd_one_left]) hs
  refine⟨natD s.1,natD s.2,rfl,fun P p=>?_⟩
  walk_at "w"
  refine⟨⟨rfl,rfl⟩,n,hx,fun i hi=>?_,fun z=>?_⟩
  ·have e:rst n ((s.1:Nat):Int) (((s.1:Nat):Int)+((s.2:Nat):Int))=rsT n (s.1*1+s.2*0) (s.1*1+s.2*1):=by
    rw [ax1]
    congr 1 <;> omega
   have hi':ac0 n (syms n) (rst n ((s.1:Nat):Int) (((s.1:Nat):Int)+((s.2:Nat):Int)))=some i:=hi
   rw [e,hm] at hi'
   cases hi'
   exact p
  ·have e:rst n ((s.1:Nat):Int) (((s.1:Nat):Int)+((s.2:Nat):Int))=rsT n (s.1*1+s.2*0) (s.1*1+s.2*1):=by
    rw [ax1]
    congr 1 <;> omega
   have z':ac0 n (syms n) (rst n ((s.1:Nat):Int) (((s.1:Nat):Int)+((s.2:Nat):Int)))=none:=z
   rw [e,hm] at z'
   cases z'
 ·rw [aP3]
  exact q _
end
def Lds (l:List Nat)(k:Nat):Prop:=Cyc (fun i=>l.getD i 0) l.length k∧k≤1000∧l.length≤5000
abbrev ldp (l:List Nat):Nat→Nat:=fun i=>l.getD i 0
inductive Fa2 {α β:Type} (R:α→β→Prop):List α→List β→Prop
 | nil:Fa2 R [] []
 | cons {x:α} {y:β} {xs:List α} {ys:List β} (h:R x y) (t:Fa2 R xs ys):Fa2 R (x::xs) (y::ys)
theorem bU9 {A:Around}{k:Nat}(hr:Room k A):A.units+2 < cLine:=lt_of_le_of_lt (Nat.add_le_add_left (by decide:2≤64) _) hr.units
def asI (l:List Nat):List Int:=l.map fun x:Nat=>(x:Int)
def Srt (l:List Nat)(k g:Nat)(y:D):Prop:=∃ os:List Int,y=lstI os∧os.Perm (asI (rg (ldp l) k g))∧os.Pairwise (·≤·)
theorem aM8 {l:List Nat}{k g:Nat}(hL:Lds l k)(hg:g < l.length)(hf:isF (ldp l) k g=true){os:List Int}(pm:os.Perm (asI (rg (ldp l) k g)))(so:os.Pairwise (·≤·)):os≠[]∧os.headD 0=(g:Int)∧os.length=rl (ldp l) k g:=by
 have len:os.length=rl (ldp l) k g:=by
  rw [pm.length_eq]
  unfold asI rg
  rw [length_map,length_map,length_range]
 have mg:(g:Int)∈os:=pm.mem_iff.mpr (mem_map.mpr ⟨g,bf0 hL.1 hg,rfl⟩)
 cases os with
 | nil=>cases mg
 | cons a r =>
  refine⟨List.cons_ne_nil _ _,?_,len⟩
  show a=(g:Int)
  obtain⟨x,hx,ex⟩:=mem_map.mp (pm.mem_iff.mp (mem_cons_self (a:=a) (l:=r)))
  have h1:=aH9 hL.1 hg hf hx
  have h2:a≤(g:Int):=by
   rcases mem_cons.mp mg with z | z
   ·rw [z];exact Int.le_refl _
   ·exact (pairwise_cons.mp so).1 _ z
  have ex':((x:Nat):Int)=a:=ex
  omega
theorem bg5 {l:List Nat}{k:Nat}(hL:Lds l k):∀ {gl:List Nat} {ys:List D},Fa2 (Srt l k) gl ys→(∀ g∈gl,g < l.length∧isF (ldp l) k g=true)→∃ ts:List (List Int),ys=ts.map lstI∧ts.length=gl.length∧(∀ t∈ts,t≠[])∧ts.map (fun t=>t.headD 0)=asI gl∧ts.map length=gl.map (rl (ldp l) k)
 | _,_,.nil,_=>⟨[],rfl,rfl,(fun _ h=>nomatch h),rfl,rfl⟩
 | g::gl,_,.cons ⟨os,e,pm,so⟩ t,h=>by
  obtain⟨ts,e1,e2,e3,e4,e5⟩:=bg5 hL t fun x hx=>h x (mem_cons_of_mem _ hx)
  obtain⟨hg,hf⟩:=h g mem_cons_self
  obtain⟨n1,n2,n3⟩:=aM8 hL hg hf pm so
  refine⟨os::ts,by rw [e,e1];rfl,by simp [e2],fun t ht=>?_,?_,?_⟩
  ·rcases mem_cons.mp ht with rfl | ht
   ·exact n1
   ·exact e3 t ht
  ·show os.headD 0::ts.map _=(g:Int)::asI gl
   rw [n2,e4]
  ·rw [map_cons,map_cons,n3,e5]
theorem bV0 (π:Nat→Nat)(k N:Nat):(gs π k N).Pairwise (· < ·):=Pairwise.filter _ pairwise_lt_range
def srtI (l:List Nat):List Int:=(asI l).mergeSort (fun a b=>decide (a≤b))
theorem al7 (l:List Nat):(srtI l).Perm (asI l):=List.mergeSort_perm _ _
theorem bg6 (l:List Nat):(srtI l).Pairwise (·≤·):=by
 have:=List.pairwise_mergeSort (le:=fun a b:Int=>decide (a≤b)) (fun a b c h1 h2=>by rw [decide_eq_true_iff] at *;omega) (fun a b=>by rw [Bool.or_eq_true,decide_eq_true_iff,decide_eq_true_iff];omega) (asI l)
 exact this.imp fun h=>by simpa using h
theorem bL9 {l:List Nat}{os:List Int}(pm:os.Perm (asI l))(so:os.Pairwise (·≤·)):os=srtI l:=by
 refine List.Perm.eq_of_pairwise (le:=fun a b:Int=>a≤b) (fun a b _ _ h1 h2=>by omega) so (bg6 l) (pm.trans (al7 l).symm)
def sRg (l:List Nat)(k:Nat):List (List Int):=(gs (ldp l) k l.length).map fun g=>srtI (rg (ldp l) k g)
theorem bs7 {l:List Nat}{k:Nat}:∀ {gl:List Nat} {ys:List D},Fa2 (Srt l k) gl ys→ys=(gl.map fun g=>srtI (rg (ldp l) k g)).map lstI
 | _,_,.nil=>rfl
 | _,_,.cons ⟨os,e,pm,so⟩ t=>by rw [bs7 t,e,bL9 pm so];rfl
section
variable {P:Program}{w:World}{K:PySem.W.Frag}{mg:Str→Option Value}{base:Heap}{f:Addr}{fd:FuncData}
abbrev aG7:Stmt:=top 24
def aM9:Sp3:=fun δ Q _=>match δ with
 | [.d x,.d (.int i)]=>∃ (l:List Nat) (k g:Nat),x=.lst (aa8 l)∧Lds l k∧i=g∧g < l.length∧∀ ob,Q (.own (.lst (aa8 (rg (ldp l) k g)))) ob
 | _=>False
theorem scRing:FnScope ["leads","first","ring"] ["leads","first"] (aa2 aG7):=⟨rfl,rfl,rfl,by decide +kernel,rfl,by decide +kernel,by decide +kernel⟩
theorem bM0 (F:Fun K "ring_from" "ring_from" aG7 f fd)(T:Bt mg):FnOk P w K mg base (CX1 P w) 1 f fd ["leads","first"] (lsp K aM9):=by
 refine ok3 F scRing (fun δ Q Z h=>bD4 h) fun cdv A outer s H E hr=>?_
 have nd:=scRing.nd
 refine⟨_,(aa5 (ab8 2 (by exact nd) rfl (Or.inl rfl) (ae4 (aa0 (dv 1) aa3 Fr.aa1))) (aa5 (al0 PassesOwn.leaving (ae7 ay2 r_ne (ad6 0 (ad6 2 (ak3 aa4))) (dv 1) (ad5 _)) (aa9 (ag4 2 (ad6 0 (ad6 2 (ak3 aa4)))))) (aa9 (ac3 (af9 2))))),fun δ Q Z h=>?_⟩
 obtain⟨x,i,rfl,l,k,g,e1,⟨hc,hk,hl⟩,e2,hg,q⟩:=bi7 h
 subst e1 e2
 have step:∀ v,v < l.length→atI (aa8 l) ((v:Nat):Int)=some (natD (ldp l v)):=fun v hv=>by
  refine ag5 ?_
  unfold aa8
  rw [getElem?_map,getElem?_eq_getElem hv]
  show some (natD l[v])=some (natD (l.getD v 0))
  rw [getD_eq_getElem?_getD,getElem?_eq_getElem hv]
  rfl
 have row:∀ j,aa8 ((List.range (j+1)).map fun i=>itr (ldp l) i g)=aa8 ((List.range j).map fun i=>itr (ldp l) i g)++[natD (itr (ldp l) j g)]:=fun j=>by
  unfold aa8
  rw [range_succ,map_append,map_append]
  rfl
 walk_at "w"
 refine⟨fun m δ=>∃ j:Nat,j < k∧m=k - j∧(∀ i,1≤i→i≤j→itr (ldp l) i g≠g)∧δ=[.d (.lst (aa8 l)),.d (.int (g:Int)),.own (.lst (aa8 ((List.range (j+1)).map fun i=>itr (ldp l) i g)))],⟨_,0,hc.pos,rfl,fun i h1 h2=>by omega,rfl⟩,?_⟩
 rintro m δ ⟨j,hj,rfl,lo,rfl⟩
 have vj:=hc.it hg j
 rw [row]
 walk_at "w"
 refine⟨_,ay4 _ _,_,step _ vj,?_⟩
 walk_at "w"
 refine brn (fun c=>?_) (fun c=>?_)
 ·have ne:itr (ldp l) (j+1) g≠g:=fun z=>c (by
   have:((itr (ldp l) (j+1) g:Nat):Int)=(g:Int):=by rw [z]
   exact this)
  have lt:j+1 < k:=by
   rcases lt_or_ge (j+1) k with z | z
   ·exact z
   ·have:j+1=k:=by omega
    rw [this] at ne
    exact absurd (hc.cy g hg) ne
  walk_at "w"
  refine⟨_,ay4 _ _,_,step _ vj,?_⟩
  have len:(aa8 ((List.range j).map fun i=>itr (ldp l) i g)++[natD (itr (ldp l) j g)]).length≤1000000:=by
   rw [← row]
   unfold aa8
   rw [length_map,length_map,length_range]
   omega
  refine⟨len,_,(show k - (j+1) < k - j by omega),j+1,lt,rfl,fun i h1 h2=>?_,?_⟩
  ·rcases lt_or_ge i (j+1) with z | z
   ·exact lo i h1 (by omega)
   ·have:i=j+1:=by omega
    rw [this]
    exact ne
  ·rw [row (j+1),row j]
   rfl
 ·have e:itr (ldp l) (j+1) g=g:=by
   have:((itr (ldp l) (j+1) g:Nat):Int)=(g:Int):=c
   omega
  have er:=aT8 hc hg (by omega) e (fun i h1 h2=>lo i h1 (by omega))
  have eg:rg (ldp l) k g=(List.range (j+1)).map fun i=>itr (ldp l) i g:=by
   unfold rg
   rw [er]
  rw [← row,← eg]
  exact q _
theorem aj2 {α:Type}(x:α):∀ n:Nat,(replicate n [x]).flatten=replicate n x
 | 0=>rfl
 | n+1=>by rw [replicate_succ,flatten_cons,aj2 x n];rfl
def cb7 (l:List Nat)(k g:Nat)(sb:List Bool):Prop:=sb.length=l.length∧∀ x,x < l.length→(sb[x]?=some true↔∃ g',g' < g∧x∈rg (ldp l) k g')
abbrev ax2:Stmt:=top 25
def rgsD (l:List Nat)(k g:Nat):List D:=(gs (ldp l) k g).map fun x=>.lst (aa8 (rg (ldp l) k x))
def aP4:Sp3:=fun δ Q _=>match δ with
 | [.d x]=>∃ (l:List Nat) (k:Nat),x=.lst (aa8 l)∧Lds l k∧∀ ob,Q (.own (.lst (rgsD l k l.length))) ob
 | _=>False
theorem scRings:FnScope ["leads","told","seen","first","ring","number"] ["leads"] (aa2 ax2):=⟨rfl,rfl,rfl,by decide +kernel,rfl,by decide +kernel,by decide +kernel⟩
theorem bz9 (F:Fun K "rings" "rings" ax2 f fd)(T:Bt mg)(Oring_from:Own3 P w K mg base 1 "ring_from" ["leads","first"] aM9):FnOk P w K mg base (CX1 P w) 2 f fd ["leads"] (lsp K aP4):=by
 refine ok3 F scRings (fun δ Q Z h=>ln_d h) fun cdv A outer s H E hr=>?_
 have nd:=scRings.nd
 refine⟨_,(aa5 (ab8 1 (by exact nd) rfl (Or.inl rfl) (ae4 aa3)) (aa5 (ab8 2 (by exact nd) rfl (Or.inl rfl) (aq3 at3 az0 (E3.toD (ae4 (aa0 d_bl aa3 Fr.aa7))) (ag7 0 rfl T.len))) (aa5 (af5 PassesOwn.leaving rfl (am8 rfl T.range (aa0 (ag7 0 rfl T.len) aa3 Fr.ac2)) (ab3 3 (by exact nd) rfl (Or.inl rfl)) (aa9 (s_if (aT5 (aT4 (ad6 2 (dv 3)))) (aa5 (ab8 4 (by exact nd) rfl (Or.inl rfl) (ab0 Oring_from Fr.aa6 hr rfl (aa0 (dv 0) (aa0 (dv 3) aa3 Fr.aa1) Fr.aa1))) (aa5 (af5 PassesOwn.leaving rfl (af4 (dv 4)) (ab3 5 (by exact nd) rfl (Or.inl rfl)) (aa9 (al1 2 (dv 5) d_bl))) (aa9 (ag4 1 (dv 4))))) ah7))) (aa9 (ac3 (af9 1)))))),fun δ Q Z h=>?_⟩
 obtain⟨x,rfl,l,k,e1,hL,q⟩:=iv_d h
 subst e1
 obtain⟨hc,hk,hl⟩:=id hL
 have ln:(aa8 l).length=l.length:=length_map _
 walk_at "w"
 refine⟨⟨by omega,by omega,by decide⟩,?_⟩
 have en:(((aa8 l).length:Nat):Int).toNat=l.length:=by omega
 rw [aj2,en]
 have e0:replicate l.length (D.bl false)=(replicate l.length false).map D.bl:=(map_replicate).symm
 rw [e0]
 walk_at "w"
 refine⟨⟨by omega,by omega⟩,?_⟩
 dsimp only
 rw [en]
 refine ar6 (fun g δ=>∃ (sb:List Bool) (s3 s4 s5:Sl),δ=[.d (.lst (aa8 l)),.own (.lst (rgsD l k g)),.own (.lst (sb.map D.bl)),s3,s4,s5]∧cb7 l k g sb) ⟨_,_,_,_,rfl,length_replicate,fun x hx=>⟨fun z=>?_,fun ⟨g',z,_⟩=>absurd z (Nat.not_lt_zero _)⟩⟩ ?_ ?_
 ·rw [getElem?_replicate,if_pos hx] at z
  cases z
 ·rintro g δ N hg ⟨sb,s3,s4,s5,rfl,sl,sn⟩ hN
  rw [zero_add]
  have hgs:g < sb.length:=by omega
  have lr:(rgsD l k g).length≤g:=by
   unfold rgsD gs
   rw [length_map]
   exact le_trans (length_filter_le _ _) (by rw [length_range];exact le_refl _)
  walk_at "w"
  refine⟨.bl sb[g],ag5 (by rw [getElem?_map,getElem?_eq_getElem hgs];rfl),?_⟩
  walk_at "w"
  refine br (fun c=>?_) (fun c=>?_)
  ·have nf:sb[g]=false:=by simpa using c
   have f1:isF (ldp l) k g=true:=isF_iff.mpr fun g' lt hm=>by
    have:=(sn g hg).mpr ⟨g',lt,hm⟩
    rw [getElem?_eq_getElem hgs,nf] at this
    cases this
   walk_at "w"
   refine⟨l,k,g,rfl,hL,rfl,hg,fun ob=>?_⟩
   have rb:(rg (ldp l) k g).length≤1000:=by
    unfold rg
    rw [length_map,length_range]
    exact le_trans (aq6 hc hg).2.1 hk
   refine ae0 (fun i δ=>∃ (sb':List Bool) (s5:Sl),δ=[.d (.lst (aa8 l)),.own (.lst (rgsD l k g)),.own (.lst (sb'.map D.bl)),.d (.int (g:Nat)),.d (.lst (aa8 (rg (ldp l) k g))),s5]∧sb'.length=l.length∧∀ x,x < l.length→(sb'[x]?=some true↔(sb[x]?=some true∨x∈(rg (ldp l) k g).take i))) ⟨sb,_,rfl,sl,fun x hx=>by simp⟩ ?_ ?_
   ·rintro i y δ N2 hy ⟨sb',s5,rfl,sl',sn'⟩ hN2
    unfold aa8 at hy
    rw [getElem?_map] at hy
    obtain⟨v,hv,rfl⟩:=Option.map_eq_some_iff.mp hy
    have vl:v < l.length:=az9 hc hg (mem_of_getElem? hv)
    have ix:ixN (sb'.map D.bl).length ((v:Nat):Int)=some v:=by
     unfold ixN
     rw [length_map,if_pos (by omega),if_pos (by omega)]
     simp
    walk_at "w"
    refine⟨v,ix,hN2 _ ⟨sb'.set v true,.d (natD v),?_,by rw [length_set];exact sl',fun x hx=>?_⟩⟩
    ·rw [map_set]
     rfl
    ·rw [take_snoc hv,mem_append,mem_singleton,← or_assoc,← sn' x hx]
     by_cases c1:v=x
     ·subst c1
      rw [getElem?_set_self (by omega)]
      exact⟨fun _=>.inr rfl,fun _=>rfl⟩
     ·rw [getElem?_set_ne c1]
      exact⟨fun z=>.inl z,fun z=>z.elim id fun z=>absurd z.symm c1⟩
   ·rintro δ ⟨sb',s5,rfl,sl',sn'⟩
    have e2:(aa8 (rg (ldp l) k g)).length=(rg (ldp l) k g).length:=length_map _
    rw [e2,take_length] at sn'
    walk_at "w"
    refine⟨by omega,hN _ ⟨sb',.d (.int (g:Nat)),.d (.lst (aa8 (rg (ldp l) k g))),s5,?_,sl',fun x hx=>?_⟩⟩
    ·unfold rgsD
     rw [bf1,if_pos f1,map_append]
     rfl
    ·rw [sn' x hx,sn x hx]
     constructor
     ·rintro (⟨g',lt,hm⟩ | hm)
      ·exact⟨g',by omega,hm⟩
      ·exact⟨g,by omega,hm⟩
     ·rintro ⟨g',lt,hm⟩
      rcases lt_or_ge g' g with z | z
      ·exact .inl ⟨g',z,hm⟩
      ·have:g'=g:=by omega
       rw [this] at hm
       exact .inr hm
  ·have nf:sb[g]=true:=by simpa using c
   obtain⟨g0,lt0,hm0⟩:=(sn g hg).mp (by rw [getElem?_eq_getElem hgs,nf])
   have f0:¬ isF (ldp l) k g=true:=fun z=>isF_iff.mp z g0 lt0 hm0
   refine hN _ ⟨sb,.d (.int (g:Nat)),s4,s5,?_,sl,fun x hx=>?_⟩
   ·unfold rgsD
    rw [bf1,if_neg f0,append_nil]
    rfl
   ·rw [sn x hx]
    constructor
    ·rintro ⟨g',lt,hm⟩
     exact⟨g',by omega,hm⟩
    ·rintro ⟨g',lt,hm⟩
     rcases lt_or_ge g' g with z | z
     ·exact⟨g',z,hm⟩
     ·have:g'=g:=by omega
      subst this
      exact⟨g0,lt0,aI6 hc (by omega) hm0 hm⟩
 ·rintro δ ⟨sb,s3,s4,s5,rfl,_⟩
  exact q _
theorem aS5 {ts:T3P}{lo:List Sl}(hlo:lo.map Sl.wipe=lo){α:Type}(f:α→D)(R:α→D→Prop):∀ {xs:List α} {s:Sl} {Q:List D→Prop},(∀ x∈xs,∀ P:Option D→List Sl→Prop,(∀ y,R x y→P (some y) (.d (f x)::lo))→ts (.d (f x)::lo) P)→(∀ ys,Fa2 R xs ys→Q ys)→ai0 (gNm 0) ts (xs.map f) (s::lo) Q
 | [],_,_,_,q=>q [] .nil
 | x::xs,s,Q,h,q=>by
  show ts (.d (f x)::lo) _
  refine h x mem_cons_self _ fun y r=>?_
  show ai0 (gNm 0) ts (xs.map f) (.d (f x)::lo.map Sl.wipe) _
  rw [hlo]
  exact aS5 hlo f R (fun z hz=>h z (mem_cons_of_mem _ hz)) fun ys hys=>q _ (.cons r hys)
abbrev ap0:Stmt:=top 26
def au4:Sp3:=fun δ Q _=>match δ with
 | [.d x]=>∃ (l:List Nat) (k:Nat),x=.lst (aa8 l)∧Lds l k∧k < 64∧(gs (ldp l) k l.length).length < 64∧∀ ob,Q (.own (.lst ((sRg l k).map lstI))) ob
 | _=>False
theorem scSRings:FnScope ["leads"] ["leads"] (aa2 ap0):=⟨rfl,rfl,rfl,by decide +kernel,rfl,by decide +kernel,by decide +kernel⟩
theorem bs8 (F:Fun K "sorted_rings" "sorted_rings" ap0 f fd)(T:Bt mg)(Orings:Own3 P w K mg base 2 "rings" ["leads"] aP4):FnOk P w K mg base (CX1 P w) 3 f fd ["leads"] (lsp K au4):=by
 refine ok3 F scSRings (fun δ Q Z h=>ln_d h) fun cdv A outer s H E hr=>?_
 have nd:=scSRings.nd
 have hu:=ai3 hr
 have hu2:=bU9 hr
 refine⟨_,(aa9 (ac3 (aY5 Fr.bj6 (bL2 hu2) rfl T.sorted boot_sorted (aa0 (E3.toD (am3 rfl (I3.toC (af4 (E3.toD (ab0 Orings Fr.aa6 hr rfl (aa0 (dv 0) aa3 Fr.aa1))))) (Fr.ah9 (xs:=["ring"]) (fr:=[]) (sc:=aa2 ap0) (N:=["leads"]) rfl rfl (by decide +kernel)) (fun _ _ _ _=>(ab3 0 (show Nodup [("ring" : Str)] by decide +kernel) rfl (Or.inl rfl))) (fun _ _ _ _=>aq5 rfl (aY5 Fr.bj5 bK9 rfl T.sorted boot_sorted (aa0 (dv 0) aa3 Fr.aa1))))) aa3)))),fun δ Q Z h=>?_⟩
 obtain⟨x,rfl,l,k,e1,hL,k64,g64,q⟩:=iv_d h
 subst e1
 walk_at "w"
 refine⟨l,k,rfl,hL,fun ob=>?_⟩
 have gm:∀ g∈gs (ldp l) k l.length,g < l.length∧isF (ldp l) k g=true:=fun g hg=>by
  obtain⟨h1,h2⟩:=mem_filter.mp hg
  exact⟨mem_range.mp h1,h2⟩
 refine⟨?_,aS5 (lo:=[]) rfl (fun x=>D.lst (aa8 (rg (ldp l) k x))) (Srt l k) (fun g hg P p=>?_) (fun ys hys=>?_)⟩
 ·unfold rgsD
  rw [length_map]
  omega
 ·obtain⟨hg1,_⟩:=gm g hg
  walk_at "w"
  refine⟨asI (rg (ldp l) k g),?_,?_,fun os pm so=>p _ ⟨os,rfl,pm,so⟩⟩
  ·unfold aa8 asI
   rw [map_map]
   rfl
  ·unfold asI rg
   rw [length_map,length_map,length_range]
   exact lt_of_le_of_lt (aq6 hL.1 hg1).2.1 k64
 ·have es:ys=(sRg l k).map lstI:=bs7 hys
  obtain⟨ts,e1,e2,e3,e4,e5⟩:=bg5 hL hys gm
  have q:∀ ob,Q (.own (.lst (ts.map lstI))) ob:=fun ob=>by rw [← e1,es];exact q ob
  subst e1
  refine⟨ts,rfl,e3,fun i t u h1 h2=>?_,by omega,q _⟩
  have a1:(asI (gs (ldp l) k l.length))[i+1]?=some (t.headD 0):=by rw [← e4,getElem?_map,h1];rfl
  have a2:(asI (gs (ldp l) k l.length))[i]?=some (u.headD 0):=by rw [← e4,getElem?_map,h2];rfl
  unfold asI at a1 a2
  rw [getElem?_map] at a1 a2
  obtain⟨x,hx,ex⟩:=Option.map_eq_some_iff.mp a1
  obtain⟨y,hy,ey⟩:=Option.map_eq_some_iff.mp a2
  obtain⟨l1,x1⟩:=List.getElem?_eq_some_iff.mp hx
  obtain⟨l2,x2⟩:=List.getElem?_eq_some_iff.mp hy
  have lt:=List.pairwise_iff_getElem.mp (bV0 (ldp l) k l.length) i (i+1) l2 l1 (by omega)
  rw [x1,x2] at lt
  omega
end
def hvM:Mt:=⟨0,-1,1,0⟩
def thM:Mt:=⟨1,-1,1,0⟩
theorem av4 (n:Nat)(a b c d:Int):ldL n a b c d=leads n ⟨a,b,c,d⟩:=rfl
theorem aP5 {n:Nat}(n2:n≤48):(syms n).length≤2304:=le_trans (au3 n (n*n)) (mul_le_mul n2 n2)
theorem bV1 {n:Nat}(n1:1≤n)(n2:n≤48):Lds (leads n hvM) 2:=by
 refine⟨aq9 n1 n2 ?_ (by decide) ?_ ⟨0,by rw [mul_zero];rfl⟩ ⟨0,by rw [mul_zero];rfl⟩ ⟨0,by rw [mul_zero];rfl⟩,by decide,?_⟩
 ·rw [show hvM.det=1 from rfl,gcd_one_left]
 ·rw [show (pwM hvM 2).det=1 from rfl,gcd_one_left]
 ·rw [ad7];exact le_trans (aP5 n2) (by decide)
theorem bV2 {n:Nat}(n1:1≤n)(n2:n≤48):Lds (leads n thM) 3:=by
 refine⟨aq9 n1 n2 ?_ (by decide) ?_ ⟨0,by rw [mul_zero];rfl⟩ ⟨0,by rw [mul_zero];rfl⟩ ⟨0,by rw [mul_zero];rfl⟩,by decide,?_⟩
 ·rw [show thM.det=1 from rfl,gcd_one_left]
 ·rw [show (pwM thM 3).det=1 from rfl,gcd_one_left]
 ·rw [ad7];exact le_trans (aP5 n2) (by decide)
theorem aS6 {α:Type}(ss:List α)(g:α→Nat)(p:α→Bool)(h:∀ i s,ss[i]?=some s→(g s=i↔p s=true)):((List.range ss.length).filter fun i=>(ss.map g).getD i 0 == i).length=(ss.filter p).length:=by
 have key:∀ k,k≤ss.length→((List.range k).filter fun i=>(ss.map g).getD i 0 == i).length=((ss.take k).filter p).length:=by
  intro k
  induction k with
  | zero=>intro _;rfl
  | succ k ih =>
   intro hk
   have lt:k < ss.length:=by omega
   have e:=getElem?_eq_getElem lt
   have hh:=h k _ e
   have eg:(ss.map g).getD k 0=g ss[k]:=by rw [getD_eq_getElem?_getD,getElem?_map,e];rfl
   rw [range_succ,filter_append,length_append,ih (by omega),take_snoc e,filter_append,length_append]
   refine congrArg _ ?_
   by_cases c:g ss[k]=k
   ·rw [filter_cons_of_pos (by rw [eg];simpa using c),filter_cons_of_pos (hh.mp c)];rfl
   ·rw [filter_cons_of_neg (by rw [eg];simpa using c),filter_cons_of_neg fun z=>c (hh.mpr z)];rfl
 have:=key ss.length (le_refl _)
 rw [take_length] at this
 exact this
theorem bV3 {n:Nat}(n1:1≤n)(n2:n≤48):((List.range (leads n hvM).length).filter fun i=>ldp (leads n hvM) i == i).length=rcN n 0:=by
 rw [← (bE2 n1 n2).1,ad7]
 refine aS6 (syms n) (lead n hvM) _ fun i s hs=>?_
 rw [aI7 n1 n2 (by rw [show hvM.det=1 from rfl,gcd_one_left]) hs,decide_eq_true_iff]
 have e:((s.1:Int)*hvM.a+s.2*hvM.c)*s.2 - ((s.1:Int)*hvM.b+s.2*hvM.d)*s.1=fF 1 0 1 s.1 s.2:=by
  show ((s.1:Int)*0+s.2*1)*s.2 - ((s.1:Int)*-1+s.2*0)*s.1=_
  unfold fF
  grind
 rw [e]
theorem bV4 {n:Nat}(n1:1≤n)(n2:n≤48):((List.range (leads n thM).length).filter fun i=>ldp (leads n thM) i == i).length=rcN n 1:=by
 rw [← (bE2 n1 n2).2,ad7]
 refine aS6 (syms n) (lead n thM) _ fun i s hs=>?_
 rw [aI7 n1 n2 (by rw [show thM.det=1 from rfl,gcd_one_left]) hs,decide_eq_true_iff]
 have e:((s.1:Int)*thM.a+s.2*thM.c)*s.2 - ((s.1:Int)*thM.b+s.2*thM.d)*s.1=fF 1 (-1) 1 s.1 s.2:=by
  show ((s.1:Int)*1+s.2*1)*s.2 - ((s.1:Int)*-1+s.2*0)*s.1=_
  unfold fF
  grind
 rw [e]
theorem bE6:∀ n,n≤48→1≤n→(decide (scN n≤96) && decide (rcN n 0≤8) && decide (rcN n 1≤8))=true:=by decide +kernel
theorem aS7 {n k m:Nat}{M:Mt}(n1:1≤n)(n2:n≤48)(hL:Lds (leads n M) k)(hm:m≤1)(e:((List.range (leads n M).length).filter fun i=>ldp (leads n M) i == i).length=rcN n m):(gs (ldp (leads n M)) k (leads n M).length).length < 64:=by
 have h1:=bx7 hL.1
 have h2:=bE6 n n2 n1
 rw [Bool.and_eq_true,Bool.and_eq_true,decide_eq_true_iff,decide_eq_true_iff,decide_eq_true_iff] at h2
 have h3:(leads n M).length≤96:=by rw [ad7,bT5 n1 n2];exact h2.1.1
 have h4:rcN n m≤8:=by
  rcases Nat.le_one_iff_eq_zero_or_eq_one.mp hm with rfl | rfl
  ·exact h2.1.2
  ·exact h2.2
 have h5:2*(gs (ldp (leads n M)) k (leads n M).length).length≤(leads n M).length+((List.range (leads n M).length).filter fun i=>ldp (leads n M) i == i).length:=h1
 rw [e] at h5
 omega
theorem bV5 {n:Nat}(n1:1≤n)(n2:n≤48):Lds (leads n foM) n:=⟨aM3 n1 n2,le_trans n2 (by decide),by rw [ad7];exact le_trans (aP5 n2) (by decide)⟩
theorem bA0 {n:Nat}(n1:1≤n)(n2:n≤48):scN n+12=12*gnN n+(3*rcN n 0+4*rcN n 1+6*hmN n)∧hmN n≤40∧scN n≤96∧rcN n 0≤8∧rcN n 1≤8∧((decide (n≤10) || n == 12 || n == 13 || n == 16 || n == 18 || n == 25)=(gnN n == 0)):=by
 have h:=ca9 n n2 n1
 have h2:=bE6 n n2 n1
 rw [Bool.and_eq_true,Bool.and_eq_true,decide_eq_true_iff,decide_eq_true_iff,decide_eq_true_iff] at h2
 unfold gnOk at h
 rw [Bool.and_eq_true,Bool.and_eq_true,Bool.and_eq_true,decide_eq_true_iff,beq_iff_eq,decide_eq_true_iff,beq_iff_eq] at h
 refine⟨?_,h.1.2,h2.1.1,h2.1.2,h2.2,h.2⟩
 have h3:=h.1.1.1
 have h4:=h.1.1.2
 unfold gnN
 omega
section
variable {P:Program}{w:World}{K:PySem.W.Frag}{mg:Str→Option Value}{base:Heap}{f:Addr}{fd:FuncData}
abbrev ax3:Stmt:=top 27
abbrev aG8:Stmt:=top 28
abbrev ap1:Stmt:=top 29
def aq7 (C:Addr)(M:Mt)(kf:Nat→Nat):Sp3:=fun δ Q _=>match δ with
 | [.d x]=>∃ n,ai7 C n x∧∀ ob,Q (.own (.lst ((sRg (leads n M) (kf n)).map lstI))) ob
 | _=>False
abbrev k2F:Nat→Nat:=fun _=>2
abbrev k3F:Nat→Nat:=fun _=>3
abbrev kNF:Nat→Nat:=fun n=>n
theorem scEdges:FnScope ["level"] ["level"] (aa2 ax3):=⟨rfl,rfl,rfl,by decide +kernel,rfl,by decide +kernel,by decide +kernel⟩
theorem bA1 (F:Fun K "edges" "edges" ax3 f fd)(T:Bt mg){C:Addr}(Ohalves:Own3 P w K mg base 3 "halves" ["level"] (ao9 C))(Osorted_rings:Own3 P w K mg base 3 "sorted_rings" ["leads"] au4):FnOk P w K mg base (CX1 P w) 4 f fd ["level"] (lsp K (aq7 C hvM k2F)):=by
 refine ok3 F scEdges (fun δ Q Z h=>ln_d h) fun cdv A outer s H E hr=>?_
 have nd:=scEdges.nd
 refine⟨_,(aa9 (ac3 (ab0 Osorted_rings Fr.aa6 hr rfl (aa0 (E3.toD (ab0 Ohalves Fr.aa6 hr rfl (aa0 (dv 0) aa3 Fr.aa1))) aa3 Fr.ac2)))),fun δ Q Z h=>?_⟩
 obtain⟨x,rfl,n,hx,q⟩:=iv_d h
 obtain⟨kvs,rfl,hk,n1,n2⟩:=id hx
 have hL:=bV1 n1 n2
 have fw:=aS7 (m:=0) n1 n2 hL (by decide) (bV3 n1 n2)
 walk_at "w"
 refine⟨n,hx,fun ob=>?_⟩
 walk_at "w"
 exact⟨leads n hvM,2,rfl,hL,by decide,fw,fun ob=>q _⟩
theorem scTris:FnScope ["level"] ["level"] (aa2 aG8):=⟨rfl,rfl,rfl,by decide +kernel,rfl,by decide +kernel,by decide +kernel⟩
theorem bM1 (F:Fun K "triangles" "triangles" aG8 f fd)(T:Bt mg){C:Addr}(Othirds:Own3 P w K mg base 3 "thirds" ["level"] (aA4 C))(Osorted_rings:Own3 P w K mg base 3 "sorted_rings" ["leads"] au4):FnOk P w K mg base (CX1 P w) 4 f fd ["level"] (lsp K (aq7 C thM k3F)):=by
 refine ok3 F scTris (fun δ Q Z h=>ln_d h) fun cdv A outer s H E hr=>?_
 have nd:=scTris.nd
 refine⟨_,(aa9 (ac3 (ab0 Osorted_rings Fr.aa6 hr rfl (aa0 (E3.toD (ab0 Othirds Fr.aa6 hr rfl (aa0 (dv 0) aa3 Fr.aa1))) aa3 Fr.ac2)))),fun δ Q Z h=>?_⟩
 obtain⟨x,rfl,n,hx,q⟩:=iv_d h
 obtain⟨kvs,rfl,hk,n1,n2⟩:=id hx
 have hL:=bV2 n1 n2
 walk_at "w"
 refine⟨n,hx,fun ob=>?_⟩
 walk_at "w"
 exact⟨leads n thM,3,rfl,hL,by decide,aS7 (m:=1) n1 n2 hL (by decide) (bV4 n1 n2),fun ob=>q _⟩
theorem scCorners:FnScope ["level"] ["level"] (aa2 ap1):=⟨rfl,rfl,rfl,by decide +kernel,rfl,by decide +kernel,by decide +kernel⟩
theorem bj9 (F:Fun K "corners" "corners" ap1 f fd)(T:Bt mg){C:Addr}(Ofollowing:Own3 P w K mg base 3 "following" ["level"] (aJ3 C))(Osorted_rings:Own3 P w K mg base 3 "sorted_rings" ["leads"] au4):FnOk P w K mg base (CX1 P w) 4 f fd ["level"] (lsp K (aq7 C foM kNF)):=by
 refine ok3 F scCorners (fun δ Q Z h=>ln_d h) fun cdv A outer s H E hr=>?_
 have nd:=scCorners.nd
 refine⟨_,(aa9 (ac3 (ab0 Osorted_rings Fr.aa6 hr rfl (aa0 (E3.toD (ab0 Ofollowing Fr.aa6 hr rfl (aa0 (dv 0) aa3 Fr.aa1))) aa3 Fr.ac2)))),fun δ Q Z h=>?_⟩
 obtain⟨x,rfl,n,hx,q⟩:=iv_d h
 obtain⟨kvs,rfl,hk,n1,n2⟩:=id hx
 have eh:=by2 n1 n2
 have hb:=(bA0 n1 n2).2.1
 walk_at "w"
 refine⟨n,hx,fun ob=>?_⟩
 walk_at "w"
 exact⟨leads n foM,n,rfl,bV5 n1 n2,by omega,lt_of_le_of_lt (le_of_eq eh) (by omega),fun ob=>q _⟩
end
noncomputable section
def lstN (l:List Nat):D:=.lst (aa8 l)
def lstZ (l:List Int):D:=.lst (l.map D.int)
theorem aN0 (l:List Nat):lstN l=lstZ (asI l):=by
 unfold lstN lstZ aa8 asI
 rw [map_map]
 rfl
section
variable {P:Program}{w:World}{K:PySem.W.Frag}{mg:Str→Option Value}{base:Heap}{f:Addr}{fd:FuncData}
abbrev au5:Stmt:=top 31
def cb8 (other:List Int)(m:Int):Prop:=Fit m∧∀ x∈other,Fit x
def aG9:Sp3:=fun δ Q _=>match δ with
 | [.d x,.d (.int m),.d y]=>∃ row other:List Int,x=lstZ row∧y=lstZ other∧cb8 other m∧row.length≤1000000∧∀ ob,Q (.own (.lst ((addZ row other m).map D.int))) ob
 | _=>False
def adF (m:Int):D→D
 | .tup [.int a,.int b]=>.int (a+m*b)
 | y=>y
theorem bg7 (m:Int):∀ row other:List Int,(zipD (row.map D.int) (other.map D.int)).map (adF m)=(addZ row other m).map D.int
 | [],_=>rfl
 | _::_,[]=>rfl
 | a::r,b::o=>congrArg (D.int (a+m*b)::·) (bg7 m r o)
theorem aP6 {x:D}:∀ {row other:List Int},x∈zipD (row.map D.int) (other.map D.int)→∃ a b,x=.tup [.int a,.int b]∧a∈row∧b∈other
 | [],_,h=>by cases h
 | _::_,[],h=>by cases h
 | a::r,b::o,h=>by
  rcases mem_cons.mp h with h | h
  ·exact⟨a,b,h,mem_cons_self,mem_cons_self⟩
  ·obtain⟨a',b',e,h1,h2⟩:=aP6 h
   exact⟨a',b',e,mem_cons_of_mem _ h1,mem_cons_of_mem _ h2⟩
theorem scAdded:FnScope ["row","many","other"] ["row","many","other"] (aa2 au5):=⟨rfl,rfl,rfl,by decide +kernel,rfl,by decide +kernel,by decide +kernel⟩
theorem bA2 (F:Fun K "added" "added" au5 f fd)(T:Bt mg):FnOk P w K mg base (CX1 P w) 1 f fd ["row","many","other"] (lsp K aG9):=by
 refine ok3 F scAdded (fun δ Q Z h=>bS9 h) fun cdv A outer s H E hr=>?_
 have nd:=scAdded.nd
 refine⟨_,(aa9 (ac3 (am3 rfl (I3.toC (aT6 rfl T.zip (aa0 (dv 0) (aa0 (dv 2) aa3 Fr.aa1) Fr.aa1))) (Fr.ah9 (xs:=["whole","part"]) (fr:=[("many",1)]) (sc:=aa2 au5) (N:=["row","many","other"]) rfl rfl (by decide +kernel)) (fun _ _ _ _=>(ae8 (n:=2) rfl (ab6 (ab3 0 (show Nodup [("whole" : Str),("part" : Str),("many" : Str)] by decide +kernel) rfl (Or.inl rfl)) (ab6 (ab3 1 (show Nodup [("whole" : Str),("part" : Str),("many" : Str)] by decide +kernel) rfl (Or.inl rfl)) ad9)))) (fun _ _ _ _=>aq5 rfl (D3.toE (d_op ac7 ad2 (dv 0) (d_op Fr.ac1 ac9 (dv 2) (dv 1)))))))),fun δ Q Z h=>?_⟩
 obtain⟨x,m,y,rfl,row,other,e1,e2,⟨fm,f2⟩,hl,q⟩:=bp2 h
 subst e1 e2
 walk_at "w"
 refine⟨by rw [am9,length_map];omega,ai2 (l:=[.d (.int m)]) rfl (adF m) (fun x hx=>?_) ?_⟩
 ·obtain⟨a,b,rfl,ha,hb⟩:=aP6 hx
  exact⟨_,_,rfl,fun P p=>⟨⟨fm,f2 b hb⟩,p⟩⟩
 ·rw [bg7]
  exact q _
abbrev al8:Stmt:=top 32
def aA5:Sp3:=fun δ Q _=>match δ with
 | [.d (.int i),.d y]=>∃ (l C G:List Nat) (k:Nat),i=(l.length:Nat)∧y=.lst ((sRg l k).map lstI)∧Grp l C G∧Cyc (at0 l) l.length k∧l.length≤1000∧∀ ob,Q (.own (.lst (aa8 C))) ob
 | _=>False
theorem bM2 {l:List Nat}{v u x:Nat}(h:v < l.length):at0 (l.set v u) x=if v=x then u else at0 l x:=by
 unfold at0
 rw [getD_eq_getElem?_getD,List.getElem?_set,getD_eq_getElem?_getD]
 by_cases c:v=x
 ·rw [if_pos c,if_pos c,if_pos h]
  rfl
 ·rw [if_neg c,if_neg c]
theorem scRingNums:FnScope ["many","told_rings","numbers","at","ring","symbol"] ["many","told_rings"] (aa2 al8):=⟨rfl,rfl,rfl,by decide +kernel,rfl,by decide +kernel,by decide +kernel⟩
theorem bb5 (F:Fun K "ring_numbers" "ring_numbers" al8 f fd)(T:Bt mg):FnOk P w K mg base (CX1 P w) 1 f fd ["many","told_rings"] (lsp K aA5):=by
 refine ok3 F scRingNums (fun δ Q Z h=>bD5 h) fun cdv A outer s H E hr=>?_
 have nd:=scRingNums.nd
 refine⟨_,(aa5 (ab8 2 (by exact nd) rfl (Or.inl rfl) (aq3 at3 az0 (E3.toD (ae4 (aa0 aa4 aa3 Fr.aa7))) (dv 0))) (aa5 (af5 PassesOwn.leaving rfl (bo5 rfl T.enumerate (aa0 (dv 1) aa3 Fr.aa1)) (ae8 (n:=2) rfl (ab6 (ab3 3 (by exact nd) rfl (Or.inl rfl)) (ab6 (ab3 4 (by exact nd) rfl (Or.inl rfl)) ad9))) (aa9 (af5 PassesOwn.leaving rfl (af4 (dv 4)) (ab3 5 (by exact nd) rfl (Or.inl rfl)) (aa9 (al1 2 (dv 5) (dv 3)))))) (aa9 (ac3 (af9 2))))),fun δ Q Z h=>?_⟩
 obtain⟨i,y,rfl,l,C,G,k,e1,e2,g,cy,hl,q⟩:=bi8 h
 subst e1 e2
 have eg:gs (ldp l) k l.length=G:=g.gs cy
 walk_at "w"
 refine⟨⟨by omega,by omega,by decide⟩,?_⟩
 walk_at "w"
 have en:((l.length:Nat):Int).toNat=l.length:=by omega
 rw [aj2,en]
 have e0:replicate l.length (D.int 0)=aa8 (replicate l.length 0):=by unfold aa8;rw [map_replicate];rfl
 rw [e0]
 refine ae0 (fun a δ=>∃ (ns:List Nat) (s3 s4 s5:Sl),δ=[.d (.int (l.length:Nat)),.d (.lst ((sRg l k).map lstI)),.own (.lst (aa8 ns)),s3,s4,s5]∧ns.length=l.length∧∀ x,x < l.length→at0 ns x=if at0 C x < a then at0 C x else 0) ⟨replicate l.length 0,_,_,_,rfl,length_replicate,fun x hx=>?_⟩ ?_ ?_
 ·rw [if_neg (Nat.not_lt_zero _)]
  unfold at0
  rw [getD_eq_getElem?_getD,getElem?_replicate,if_pos hx]
  rfl
 ·rintro a z δ N hz ⟨ns,s3,s4,s5,rfl,ln,hns⟩ hN
  obtain⟨y,hy,rfl⟩:=aW6 hz
  unfold sRg at hy
  rw [eg,map_map,getElem?_map] at hy
  obtain⟨f0,hf,rfl⟩:=Option.map_eq_some_iff.mp hy
  have fG:f0∈G:=mem_of_getElem? hf
  obtain⟨f1,f2⟩:=g.own f0 fG
  have fC:at0 C f0=a:=by
   have lt:=g.lt f0 f1
   have e3:G[at0 C f0]?=some f0:=by
    have:at0 G (at0 C f0)=f0:=f2
    unfold at0 at this
    rw [getD_eq_getElem?_getD] at this
    rw [getElem?_eq_getElem (by exact lt)] at this ⊢
    exact congrArg some this
   exact az8 (g.asc.imp ne_of_lt) e3 hf
  walk_at "w"
  refine ae0 (fun j δ=>∃ (ms:List Nat) (s5:Sl),δ=[.d (.int (l.length:Nat)),.d (.lst ((sRg l k).map lstI)),.own (.lst (aa8 ms)),.d (.int (a:Nat)),.d (lstI (srtI (rg (ldp l) k f0))),s5]∧ms.length=l.length∧∀ x,x < l.length→at0 ms x=if at0 C x < a then at0 C x else if (x:Int)∈(srtI (rg (ldp l) k f0)).take j then a else 0) ⟨ns,_,rfl,ln,fun x hx=>by rw [take_zero];simp only [not_mem_nil,if_false];exact hns x hx⟩ ?_ ?_
  ·rintro j z2 δ N2 hz2 ⟨ms,s5,rfl,lm,hms⟩ hN2
   rw [getElem?_map] at hz2
   obtain⟨v,hv,rfl⟩:=Option.map_eq_some_iff.mp hz2
   obtain⟨x0,hx0,ex⟩:=mem_map.mp ((al7 _).mem_iff.mp (mem_of_getElem? hv))
   have ex:((x0:Nat):Int)=v:=ex
   subst ex
   have xl:=az9 cy f1 hx0
   have xc:at0 C x0=a:=(g.mem cy f1 hx0).trans fC
   have ix:ixN (aa8 ms).length ((x0:Nat):Int)=some x0:=by
    unfold ixN aa8
    rw [length_map,if_pos (by omega),if_pos (by omega)]
    simp
   walk_at "w"
   refine⟨x0,ix,hN2 _ ⟨ms.set x0 a,.d (.int (x0:Nat)),?_,by rw [length_set];exact lm,fun x hx=>?_⟩⟩
   ·unfold aa8
    rw [map_set]
    rfl
   ·rw [bM2 (by omega),take_snoc hv]
    simp only [mem_append,mem_singleton]
    by_cases c:x0=x
    ·subst c
     rw [if_pos rfl,if_neg (by omega),if_pos (.inr rfl)]
    ·rw [if_neg c,hms x hx]
     have:¬ (x:Int)=(x0:Int):=fun z=>c (by omega)
     simp only [this,or_false]
  ·rintro δ ⟨ms,s5,rfl,lm,hms⟩
   refine hN _ ⟨ms,_,_,_,rfl,lm,fun x hx=>?_⟩
   rw [hms x hx,length_map,take_length]
   have key:((x:Int)∈srtI (rg (ldp l) k f0))↔at0 C x=a:=by
    rw [(al7 _).mem_iff]
    unfold asI
    rw [mem_map]
    constructor
    ·rintro ⟨x1,h1,e1⟩
     have e1:((x1:Nat):Int)=x:=e1
     have:x1=x:=by omega
     subst this
     exact (g.mem cy f1 h1).trans fC
    ·intro e
     have:=g.all cy hx
     rw [e,← fC,f2] at this
     exact⟨x,this,rfl⟩
   by_cases c1:at0 C x < a
   ·rw [if_pos c1,if_pos (by omega)]
   ·rw [if_neg c1]
    by_cases c2:at0 C x=a
    ·rw [if_pos (key.mpr c2),if_pos (by omega),c2]
    ·rw [if_neg fun z=>c2 (key.mp z),if_neg (by omega)]
 ·rintro δ ⟨ns,s3,s4,s5,rfl,ln,hns⟩
  have e:ns=C:=by
   refine ext_getElem (by rw [ln,g.len]) fun x h1 h2=>?_
   have hx:x < l.length:=by omega
   have:=hns x hx
   have lG:(av1 ((sRg l k).map lstI)).length=G.length:=by
    rw [al2,length_map]
    unfold sRg
    rw [length_map,eg]
   rw [lG,if_pos (g.lt x hx)] at this
   unfold at0 at this
   rw [getD_eq_getElem?_getD,getD_eq_getElem?_getD,getElem?_eq_getElem h1,getElem?_eq_getElem h2] at this
   exact this
  subst e
  exact q _
abbrev ak8:Stmt:=top 33
def aE2:Sp3:=fun δ Q _=>match δ with
 | [.d x,.d y,.d z]=>∃ ss H g:List Nat,x=lstN ss∧y=lstN H∧z=lstN g∧g.length=H.length∧(∀ s∈ss,s < H.length)∧(∀ s,s < H.length→at0 H s < H.length)∧H.length≤1000∧ss.length≤1000∧∀ ob,Q (.own (.lst (aa8 (am4 H ss g [])))) ob
 | _=>False
def jnF (o w:Nat):D→D
 | .int e=>if e=(o:Int) then natD w else .int e
 | y=>y
theorem bM3 (o w:Nat)(g:List Nat):(aa8 g).map (jnF o w)=aa8 (g.map fun e=>bif beq e o then w else e):=by
 unfold aa8
 rw [map_map,map_map]
 refine map_congr_left fun e _=>?_
 show (if ((e:Nat):Int)=(o:Int) then natD w else natD e)=natD (bif beq e o then w else e)
 by_cases c:e=o
 ·subst c
  rw [if_pos rfl,beq_refl]
  rfl
 ·rw [if_neg (by omega)]
  cases h:beq e o with
  | true=>exact absurd (eq_of_beq_eq_true h) c
  | false=>rfl
theorem bk0 (H:List Nat)(s:Nat)(r g told:List Nat):am4 H (s::r) g told=bif beq (at0 g s) (at0 g (at0 H s)) then am4 H r g told else am4 H r (g.map fun e=>bif beq e (at0 g s) then at0 g (at0 H s) else e) (told++[s]):=rfl
theorem scJoining:FnScope ["sides","half","group","told","side","old","new"] ["sides","half","group"] (aa2 ak8):=⟨rfl,rfl,rfl,by decide +kernel,rfl,by decide +kernel,by decide +kernel⟩
theorem bk1 (F:Fun K "joining" "joining" ak8 f fd)(T:Bt mg):FnOk P w K mg base (CX1 P w) 1 f fd ["sides","half","group"] (lsp K aE2):=by
 refine ok3 F scJoining (fun δ Q Z h=>aL5 h) fun cdv A outer s H E hr=>?_
 have nd:=scJoining.nd
 refine⟨_,(aa5 (ab8 3 (by exact nd) rfl (Or.inl rfl) (ae4 aa3)) (aa5 (af5 PassesOwn.leaving rfl (af4 (dv 0)) (ab3 4 (by exact nd) rfl (Or.inl rfl)) (aa5 (aq2 (ad1 (aa0 (ad6 2 (dv 4)) (aa0 (ad6 2 (ad6 1 (dv 4))) aa3))) (ae8 (n:=2) rfl (ab6 (ab3 5 (by exact nd) rfl (Or.inr rfl)) (ab6 (ab3 6 (by exact nd) rfl (Or.inr rfl)) ad9)))) (aa9 (s_if (ae7 ay2 r_ne (dv 5) (dv 6) (ad5 _)) (aa5 (ag4 3 (dv 4)) (aa9 (aC8 2 (by exact nd) rfl (Or.inl rfl) rfl (at7 2) (Fr.ah9 (xs:=["each"]) (fr:=[("old",5),("new",6)]) (sc:=aa2 ak8) (N:=["sides","half","group","told","side","old","new"]) rfl rfl (by decide +kernel)) (fun _ _ _ _=>(ab3 0 (show Nodup [("each" : Str),("old" : Str),("new" : Str)] by decide +kernel) rfl (Or.inl rfl))) (fun _ _ _ _=>aq5 rfl (bH6 (ae7 au7 r_eq (dv 0) (dv 1) (ad5 _)) (D3.toE (dv 2)) (D3.toE (dv 0))))))) ah7)))) (aa9 (ac3 (af9 3))))),fun δ Q Z h=>?_⟩
 obtain⟨x,y,z,rfl,ss,H,g,e1,e2,e3,lg,hs,hH,lH,ls,q⟩:=aC9 h
 subst e1 e2 e3
 have ixH:∀ (m:List Nat) (x:Nat),x < m.length→atI (aa8 m) ((x:Nat):Int)=some (natD (at0 m x)):=fun m x hx=>by
  refine ag5 ?_
  unfold aa8 at0
  rw [getElem?_map,getD_eq_getElem?_getD,getElem?_eq_getElem hx]
  rfl
 walk_at "w"
 refine ae0 (fun i δ=>∃ (g' told:List Nat) (s2 s4 s5 s6:Sl),δ=[.d (lstN ss),.d (lstN H),s2,.own (.lst (aa8 told)),s4,s5,s6]∧(s2=.d (lstN g')∨s2=.own (.lst (aa8 g')))∧g'.length=H.length∧told.length≤i∧am4 H (ss.drop i) g' told=am4 H ss g []) ⟨g,[],_,_,_,_,rfl,.inl rfl,lg,le_refl _,rfl⟩ ?_ ?_
 ·rintro i y δ N hy ⟨g',told,s2,s4,s5,s6,rfl,hs2,lg',lt',ej⟩ hN
  unfold aa8 at hy
  rw [getElem?_map] at hy
  obtain⟨x,hx,rfl⟩:=Option.map_eq_some_iff.mp hy
  have xl:=hs x (mem_of_getElem? hx)
  have hl:=hH x xl
  have il:i < ss.length:=(List.getElem?_eq_some_iff.mp hx).1
  have ed:ss.drop i=x::ss.drop (i+1):=by
   rw [drop_eq_getElem_cons il,(List.getElem?_eq_some_iff.mp hx).2]
  rw [ed] at ej
  rw [bk0] at ej
  have tl:(aa8 told).length≤1000000:=by unfold aa8;rw [length_map];omega
  rcases hs2 with rfl | rfl
  all_goals
   walk_at "w"
   refine⟨_,ixH g' x (by omega),_,ixH H x xl,_,ixH g' _ (by omega),?_⟩
   walk_at "w"
   refine brn (fun c=>?_) (fun c=>?_)
   ·have cb:beq (at0 g' x) (at0 g' (at0 H x))=false:=by
     cases e:beq (at0 g' x) (at0 g' (at0 H x)) with
     | false=>rfl
     | true=>exact absurd (congrArg (fun z:Nat=>(z:Int)) (eq_of_beq_eq_true e)) c
    rw [cb,cond_false] at ej
    walk_at "w"
    refine⟨tl,?_⟩
    walk_at "w"
    refine⟨by unfold aa8;rw [length_map];omega,av0 (l:=[.d (natD (at0 g' x)),.d (natD (at0 g' (at0 H x)))]) rfl (jnF (at0 g' x) (at0 g' (at0 H x))) (fun z hz P p=>?_) ?_⟩
    ·obtain⟨e,_,rfl⟩:=mem_map.mp hz
     walk_at "w"
     refine brd (fun c2=>?_) (fun c2=>?_)
     ·have:jnF (at0 g' x) (at0 g' (at0 H x)) (natD e)=natD (at0 g' (at0 H x)):=if_pos c2
      rw [this] at p
      exact p
     ·have:jnF (at0 g' x) (at0 g' (at0 H x)) (natD e)=natD e:=if_neg c2
      rw [this] at p
      exact p
    ·rw [bM3]
     refine hN _ ⟨_,told++[x],_,.d (natD x),.d (natD (at0 g' x)),.d (natD (at0 g' (at0 H x))),?_,.inr rfl,?_,?_,ej⟩
     ·unfold aa8
      rw [map_append]
      rfl
     ·rw [length_map];exact lg'
     ·rw [length_append]
      exact Nat.add_le_add_right lt' 1
   ·have cb:beq (at0 g' x) (at0 g' (at0 H x))=true:=by
     have:at0 g' x=at0 g' (at0 H x):=by
      have c':((at0 g' x:Nat):Int)=((at0 g' (at0 H x):Nat):Int):=c
      omega
     rw [this]
     exact beq_refl _
    rw [cb,cond_true] at ej
    first
    | exact hN _ ⟨g',told,_,_,_,_,rfl,.inl rfl,lg',by omega,ej⟩
    | exact hN _ ⟨g',told,_,_,_,_,rfl,.inr rfl,lg',by omega,ej⟩
 ·rintro δ ⟨g',told,s2,s4,s5,s6,rfl,hs2,lg',lt',ej⟩
  have:(aa8 ss).length=ss.length:=length_map _
  rw [this,drop_length] at ej
  have ej:told=am4 H ss g []:=ej
  rw [← ej] at q
  exact q _
end
end
noncomputable section
def sdF:D→Option D
 | .lst xs=>if xs.length=2 then xs.head? else none
 | _=>none
theorem bA3 {H:List Nat}(cy:Cyc (at0 H) H.length 2){g:Nat}(hg:g < H.length):g < at0 H g↔isF (at0 H) 2 g=true∧rl (at0 H) 2 g=2:=by
 obtain⟨r1,r2,r3⟩:=aq6 cy hg
 have r0:=aL8 (π:=at0 H) (k:=2) g
 have two:∀ j,itr (at0 H) j g=g∨itr (at0 H) j g=at0 H g:=fun j=>by
  rw [be9 (cy.cy g hg) j]
  rcases (show j % 2=0∨j % 2=1 by omega) with e | e
  ·rw [e];exact .inl rfl
  ·rw [e];exact .inr rfl
 constructor
 ·intro h
  refine⟨isF_iff.mpr fun g' lt hm=>?_,?_⟩
  ·have hg':g' < H.length:=by omega
   obtain⟨j,e⟩:=(ag8 cy hg).mp (aD0 cy hg' hm)
   rcases two j with z | z <;> omega
  ·rcases (show rl (at0 H) 2 g=1∨rl (at0 H) 2 g=2 by omega) with e | e
   ·rw [e] at r1
    have r1:at0 H g=g:=r1
    omega
   ·exact e
 ·rintro ⟨h1,h2⟩
  have ne:at0 H g≠g:=r3 1 (le_refl _) (by omega)
  rcases lt_or_ge g (at0 H g) with z | z
  ·exact z
  ·have lt:at0 H g < g:=by omega
   refine absurd ?_ ((isF_iff.mp h1) _ lt)
   exact (ag8 cy (cy.lt g hg)).mpr ⟨1,(cy.cy g hg).symm⟩
theorem aZ1 {H:List Nat}(cy:Cyc (at0 H) H.length 2)(hL:Lds H 2):∀ L:List Nat,(∀ g∈L,g < H.length)→(((L.filter (isF (at0 H) 2)).map fun g=>srtI (rg (at0 H) 2 g)).map lstI).filterMap sdF=aa8 (L.filter fun g=>Nat.blt g (at0 H g))
 | [],_=>rfl
 | g::L,h=>by
  have ih:=aZ1 cy hL L fun x hx=>h x (mem_cons_of_mem _ hx)
  have hg:=h g mem_cons_self
  have si:=bA3 cy hg
  by_cases c:isF (at0 H) 2 g=true
  ·obtain⟨n1,n2,n3⟩:=aM8 hL hg c (al7 (rg (at0 H) 2 g)) (bg6 _)
   rw [filter_cons_of_pos c,map_cons,map_cons]
   have hd:sdF (lstI (srtI (rg (at0 H) 2 g)))=if rl (at0 H) 2 g=2 then some (natD g) else none:=by
    generalize srtI (rg (at0 H) 2 g)=os at n1 n2 n3
    show (if (os.map D.int).length=2 then (os.map D.int).head? else none)=_
    rw [length_map]
    have n3:os.length=rl (at0 H) 2 g:=n3
    rw [n3]
    cases os with
    | nil=>exact absurd rfl n1
    | cons a r =>
     have n2:a=(g:Int):=n2
     rw [n2]
     rfl
   by_cases c2:rl (at0 H) 2 g=2
   ·have b:Nat.blt g (at0 H g)=true:=ble_eq.mpr (si.mpr ⟨c,c2⟩)
    rw [if_pos c2] at hd
    rw [List.filterMap_cons_some hd,ih,filter_cons_of_pos (p:=fun g=>Nat.blt g (at0 H g)) b]
    rfl
   ·have b:¬ Nat.blt g (at0 H g)=true:=fun z=>c2 (si.mp (ble_eq.mp z)).2
    rw [if_neg c2] at hd
    rw [List.filterMap_cons_none hd,ih,filter_cons_of_neg (p:=fun g=>Nat.blt g (at0 H g)) b]
  ·have b:¬ Nat.blt g (at0 H g)=true:=fun z=>c (si.mp (ble_eq.mp z)).1
   rw [filter_cons_of_neg c,ih,filter_cons_of_neg (p:=fun g=>Nat.blt g (at0 H g)) b]
theorem bA4 {H:List Nat}(cy:Cyc (at0 H) H.length 2)(hL:Lds H 2):((sRg H 2).map lstI).filterMap sdF=aa8 (ak2 H):=aZ1 cy hL (List.range H.length) fun g hg=>mem_range.mp hg
def noF (t:List Nat):D→Option D
 | .int i=>if (t.any fun x=>decide ((x:Int)=i))=true then none else some (.int i)
 | _=>none
theorem bg8 (t ss:List Nat):(aa8 ss).filterMap (noF t)=aa8 (ss.filter fun s=>!hasN t s):=by
 unfold aa8
 rw [filterMap_map,← List.filterMap_eq_filter,map_filterMap]
 congr 1
 funext s
 have e:(t.any fun x=>decide ((x:Int)=((s:Nat):Int)))=hasN t s:=by
  unfold hasN
  congr 1
  funext x
  rw [Bool.eq_iff_iff,decide_eq_true_iff]
  constructor
  ·intro z
   have:s=x:=by omega
   rw [this]
   exact beq_refl x
  ·intro z
   rw [eq_of_beq_eq_true z]
 show (if (t.any fun x=>decide ((x:Int)=((s:Nat):Int)))=true then none else some (natD s))=_
 rw [e]
 show _=Option.map natD (if (!hasN t s)=true then some s else none)
 cases hasN t s <;> rfl
theorem aP7 (t:List Nat)(i:Int):((asI t).any fun k=>k == i)=t.any fun x=>decide ((x:Int)=i):=by
 unfold asI
 rw [List.any_map]
 congr 1
section
variable {P:Program}{w:World}{K:PySem.W.Frag}{mg:Str→Option Value}{base:Heap}{f:Addr}{fd:FuncData}
abbrev ak1:Stmt:=top 34
def aJ4 (C:Addr):Sp3:=fun δ Q _=>match δ with
 | [.d x]=>∃ n,ai7 C n x∧∀ ob,Q (.own (.lst (aa8 (kpT n)))) ob
 | _=>False
theorem scChosen:FnScope ["level","half","sides","tree","others","settled"] ["level"] (aa2 ak1):=⟨rfl,rfl,rfl,by decide +kernel,rfl,by decide +kernel,by decide +kernel⟩
theorem bs9 (F:Fun K "chosen" "chosen" ak1 f fd)(T:Bt mg){C:Addr}(Ohalves:Own3 P w K mg base 4 "halves" ["level"] (ao9 C))(Oedges:Own3 P w K mg base 4 "edges" ["level"] (aq7 C hvM k2F))(Otriangles:Own3 P w K mg base 4 "triangles" ["level"] (aq7 C thM k3F))(Ocorners:Own3 P w K mg base 4 "corners" ["level"] (aq7 C foM kNF))
  (Oring_numbers:Own3 P w K mg base 4 "ring_numbers" ["many","told_rings"] aA5) (Ojoining:Own3 P w K mg base 4 "joining" ["sides","half","group"] aE2):FnOk P w K mg base (CX1 P w) 5 f fd ["level"] (lsp K (aJ4 C)):=by
 refine ok3 F scChosen (fun δ Q Z h=>ln_d h) fun cdv A outer s H E hr=>?_
 have nd:=scChosen.nd
 have hu:=ai3 hr
 refine⟨_,(aa5 (ab8 1 (by exact nd) rfl (Or.inl rfl) (ab0 Ohalves Fr.aa6 hr rfl (aa0 (dv 0) aa3 Fr.aa1))) (aa5 (aC8 2 (by exact nd) rfl (Or.inl rfl) rfl (I3.toC (af4 (E3.toD (ab0 Oedges Fr.aa6 hr rfl (aa0 (dv 0) aa3 Fr.aa1))))) (Fr.ah9 (xs:=["edge"]) (fr:=[]) (sc:=aa2 ak1) (N:=["level","half","sides","tree","others","settled"]) rfl rfl (by decide +kernel)) (fun _ _ _ _=>(ab3 0 (show Nodup [("edge" : Str)] by decide +kernel) rfl (Or.inl rfl))) (fun _ _ _ _=>aL3 rfl (D3.toE (ad6 0 aa4)) (ae7 au7 r_eq (ag7 0 rfl T.len) aa4 (ad5 _)))) (aa5 (ab8 3 (by exact nd) rfl (Or.inr rfl) (ab0 Ojoining Fr.aa6 hr rfl (aa0 (dv 2) (aa0 (dv 1) (aa0 (E3.toD (ab0 Oring_numbers Fr.aa6 hr rfl (aa0 (ag7 1 rfl T.len) (aa0 (E3.toD (ab0 Ocorners Fr.aa6 hr rfl (aa0 (dv 0) aa3 Fr.aa1))) aa3 Fr.ac2) Fr.ac2))) aa3 Fr.ac2) Fr.aa1) Fr.aa1))) (aa5 (aC8 4 (by exact nd) rfl (Or.inl rfl) rfl (at7 2) (Fr.ah9 (xs:=["side"]) (fr:=[("tree",3)]) (sc:=aa2 ak1) (N:=["level","half","sides","tree","others","settled"]) rfl rfl (by decide +kernel)) (fun _ _ _ _=>(ab3 0 (show Nodup [("side" : Str),("tree" : Str)] by decide +kernel) rfl (Or.inl rfl))) (fun _ _ _ _=>aL3 rfl (D3.toE (dv 0)) (bo9 0 1 L2.aB7 aY6 rfl))) (aa5 (ab8 5 (by exact nd) rfl (Or.inr rfl) (ab0 Ojoining Fr.aa6 hr rfl (aa0 (dv 4) (aa0 (dv 1) (aa0 (E3.toD (ab0 Oring_numbers Fr.aa6 hr rfl (aa0 (ag7 1 rfl T.len) (aa0 (E3.toD (ab0 Otriangles Fr.aa6 hr rfl (aa0 (dv 0) aa3 Fr.aa1))) aa3 Fr.ac2) Fr.ac2))) aa3 Fr.ac2) Fr.aa1) Fr.aa1))) (aa9 (ac3 (am3 rfl (at7 2) (Fr.ah9 (xs:=["side"]) (fr:=[("settled",5)]) (sc:=aa2 ak1) (N:=["level","half","sides","tree","others","settled"]) rfl rfl (by decide +kernel)) (fun _ _ _ _=>(ab3 0 (show Nodup [("side" : Str),("settled" : Str)] by decide +kernel) rfl (Or.inl rfl))) (fun _ _ _ _=>aL3 rfl (D3.toE (dv 0)) (bo9 0 1 L2.aB7 aY6 rfl)))))))))),fun δ Q Z h=>?_⟩
 obtain⟨x,rfl,n,hx,q⟩:=iv_d h
 obtain⟨kvs,rfl,hk,n1,n2⟩:=id hx
 obtain⟨tb1,tb2,tb3⟩:=tabs n1 n2
 walk_at "w"
 refine⟨n,hx,fun ob=>?_⟩
 rw [av4,show (⟨0,-1,1,0⟩:Mt)=hvX from rfl,tb1]
 have ch:=aX7 n1 n2
 have ct:=at9 n1 n2
 have el:(thT n).length=(hvT n).length:=by rw [aw9 n1 n2,aX5 n1 n2]
 have fl:(foT n).length=(hvT n).length:=by rw [aw9 n1 n2,bU1 n1 n2]
 have Kp:=as0 n1 n2
 obtain⟨g1,g2⟩:=grp2 n1 n2
 have lh:=Kp.syms
 have lI:∀ l:List Nat,(aa8 l).length=l.length:=fun l=>length_map _
 have lsF:∀ (p:Nat→Bool),((ak2 (hvT n)).filter p).length≤96:=fun p=>le_trans (length_filter_le _ _) (by unfold ak2;exact le_trans (length_filter_le _ _) (by rw [length_range];exact lh))
 have lsS:(ak2 (hvT n)).length≤96:=by unfold ak2;exact le_trans (length_filter_le _ _) (by rw [length_range];exact lh)
 have sl:∀ x∈ak2 (hvT n),x < (hvT n).length:=fun x hx=>mem_range.mp (mem_filter.mp hx).1
 have nofit:∀ (t:List Nat) (x:Nat) (P:Option D→List Sl→Prop) (s1:Sl),P (noF t (natD x)) [.d (natD x),s1]→(∃ (i:Int) (ks:List Int),natD x=.int i∧lstN t=.lst (ks.map D.int)∧Br (!(ks.any fun k=>k == i)) (P (some (natD x)) [.d (natD x),s1]) (P none [.d (natD x),s1])):=fun t x P s1 p=>by
  refine⟨x,asI t,rfl,aN0 t,?_⟩
  rw [aP7]
  have e:noF t (natD x)=if (t.any fun y=>decide ((y:Int)=(x:Int)))=true then none else some (natD x):=rfl
  rw [e] at p
  refine br (fun c=>?_) (fun c=>?_)
  ·rw [Bool.not_eq_true'] at c
   rw [c] at p
   exact p
  ·rw [Bool.not_eq_false'] at c
   rw [c] at p
   exact p
 walk_at "w"
 refine⟨n,hx,fun ob=>?_⟩
 have eE:leads n hvM=hvT n:=tb1
 have eT:leads n thM=thT n:=tb2
 have eF:leads n foM=foT n:=tb3
 rw [eE]
 walk_at "w"
 refine⟨le_trans (by rw [length_map];unfold sRg gs;rw [length_map];exact length_filter_le _ _) (by rw [length_range];omega),ai1 (l:=[]) rfl sdF (fun x hx' P p=>?_) ?_⟩
 ·obtain⟨os,_,rfl⟩:=mem_map.mp hx'
  have e:sdF (lstI os)=if (os.map D.int).length=2 then (os.map D.int).head? else none:=rfl
  walk_at "w"
  refine brd (fun c=>?_) (fun c=>?_)
  ·have c':(os.map D.int).length=2:=by
    have c:(((os.map D.int).length:Nat):Int)=2:=c
    omega
   rw [e,if_pos c'] at p
   match os,c',p with
   | [a,b],_,p=>exact⟨_,rfl,p⟩
  ·have c':¬ (os.map D.int).length=2:=fun z=>c (by
    show (((os.map D.int).length:Nat):Int)=2
    omega)
   rw [e,if_neg c'] at p
   exact p
 rw [show k2F n=2 from rfl,bA4 ch ⟨ch,by decide,by omega⟩]
 walk_at "w"
 refine⟨n,hx,fun ob=>?_⟩
 rw [eF]
 have lc:((aa8 (hvT n)).length:Int)=((foT n).length:Nat):=by rw [lI,fl]
 have lt':((aa8 (hvT n)).length:Int)=((thT n).length:Nat):=by rw [lI,el]
 walk_at "w"
 refine⟨foT n,cgT n,cfT n,n,lc,rfl,g1,bq7 n1 n2,by omega,fun ob=>?_⟩
 walk_at "w"
 refine⟨ak2 (hvT n),hvT n,cgT n,rfl,rfl,rfl,by rw [g1.len,fl],sl,ch.lt,by omega,by omega,fun ob=>?_⟩
 walk_at "w"
 refine⟨by rw [lI];omega,ai1 (l:=[.d (lstN (aU0 n))]) rfl (noF (aU0 n)) (fun x hx' P p=>?_) ?_⟩
 ·obtain⟨y,_,rfl⟩:=mem_map.mp hx'
  exact nofit (aU0 n) y P _ p
 rw [bg8]
 walk_at "w"
 refine⟨n,hx,fun ob=>?_⟩
 rw [eT]
 walk_at "w"
 refine⟨thT n,tgT n,tfT n,3,lt',rfl,g2,at9 n1 n2,by omega,fun ob=>?_⟩
 walk_at "w"
 refine⟨bf3 n,hvT n,tgT n,rfl,rfl,rfl,by rw [g2.len,el],(fun x hx'=>sl x (mem_filter.mp hx').1),ch.lt,by omega,le_trans (lsF _) (by decide),fun ob=>?_⟩
 walk_at "w"
 refine⟨by rw [lI];omega,ai1 (l:=[.d (lstN (aA0 n))]) rfl (noF (aA0 n)) (fun x hx' P p=>?_) ?_⟩
 ·obtain⟨y,_,rfl⟩:=mem_map.mp hx'
  exact nofit (aA0 n) y P _ p
 rw [bg8]
 have:=Kp.eq
 unfold bj1 at this
 rw [this]
 exact q _
abbrev ap2:Stmt:=top 35
def aJ5:Sp3:=fun δ Q _=>match δ with
 | [.bor (.lst rs),.d y,.d (.int i),.d z]=>∃ (R:List (List Int)) (H:List Nat) (x:Nat) (row:List Int),rs=R.map lstZ∧y=lstN H∧i=(x:Nat)∧z=lstZ row∧x < R.length∧x < H.length∧at0 H x < R.length∧row.length≤1000∧Q (.d .non) (some (.lst ((aj7 H R x row).map lstZ)))
 | _=>False
def ngF:D→D
 | .int e=>.int (-e)
 | y=>y
theorem aU1 {m:List Nat}{x:Nat}(hx:x < m.length):atI (aa8 m) ((x:Nat):Int)=some (natD (at0 m x)):=by
 refine ag5 ?_
 unfold aa8 at0
 rw [getElem?_map,getD_eq_getElem?_getD,getElem?_eq_getElem hx]
 rfl
theorem scSettle:FnScope ["rows","half","number","row"] ["rows","half","number","row"] (aa2 ap2):=⟨rfl,rfl,rfl,by decide +kernel,rfl,by decide +kernel,by decide +kernel⟩
theorem bt0 (F:Fun K "settle" "settle" ap2 f fd)(T:Bt mg):FnOk P w K mg base (CX1 P w) 1 f fd ["rows","half","number","row"] (lsp K aJ5):=by
 refine ok3 F scSettle (fun δ Q Z h=>match δ,h with | [.bor (.lst rs),.d y,.d (.int i),.d z],_=>rfl) fun cdv A outer s H E hr=>?_
 have nd:=scSettle.nd
 refine⟨_,(aa5 (al1 0 (dv 2) (dv 3)) (aa9 (al1 0 (ad6 1 (dv 2)) (E3.toD (am3 rfl (at7 3) (Fr.ah9 (xs:=["each"]) (fr:=[]) (sc:=aa2 ap2) (N:=["rows","half","number","row"]) rfl rfl (by decide +kernel)) (fun _ _ _ _=>(ab3 0 (show Nodup [("each" : Str)] by decide +kernel) rfl (Or.inl rfl))) (fun _ _ _ _=>aq5 rfl (D3.toE (ak3 (dv 0))))))))),fun δ Q Z h=>?_⟩
 match δ,h with
 | [.bor (.lst rs),.d y,.d (.int i),.d z],⟨R,H,x,row,e1,e2,e3,e4,xR,xH,hR,lr,q⟩ =>
  subst e1 e2 e3 e4
  have ixx:∀ (m:Nat) (R':List (List Int)),m < R'.length→ixN (R'.map lstZ).length ((m:Nat):Int)=some m:=fun m R' hm=>by
   unfold ixN
   rw [length_map,if_pos (by omega),if_pos (by omega)]
   simp
  walk_at "w"
  refine⟨x,ixx x R xR,?_⟩
  walk_at "w"
  refine⟨by rw [length_map];omega,av0 (l:=[]) rfl ngF (fun z hz P p=>?_) ?_⟩
  ·obtain⟨e,_,rfl⟩:=mem_map.mp hz
   exact p
  walk_at "w"
  refine⟨_,aU1 xH,at0 H x,?_,?_⟩
  ·rw [← map_set]
   exact ixx _ _ (by rw [length_set];exact hR)
  ·have e:((map lstZ R).set x (lstZ row)).set (at0 H x) (D.lst ((row.map D.int).map ngF))=(aj7 H R x row).map lstZ:=by
    unfold aj7
    rw [map_set,map_set]
    congr 1
    unfold lstZ
    rw [map_map,map_map]
    rfl
   rw [← e] at q
   exact q
abbrev ae6:Stmt:=top 36
def ap3 (C:Addr):Sp3:=fun δ Q _=>match δ with
 | [.d x,.d y]=>∃ n,ai7 C n x∧y=lstN (kpT n)∧∀ ob,Q (.own (.lst (aa8 (odT n)))) ob
 | _=>False
def knF (H kp:List Nat):D→D
 | .int i=>.bl (beq (at0 H i.toNat) i.toNat || hasN kp i.toNat || hasN kp (at0 H i.toNat))
 | y=>y
theorem bg9 (t:List Nat)(i:Nat):(t.any fun x=>decide ((x:Int)=((i:Nat):Int)))=hasN t i:=by
 unfold hasN
 congr 1
 funext x
 rw [Bool.eq_iff_iff,decide_eq_true_iff]
 constructor
 ·intro z
  have:i=x:=by omega
  rw [this]
  exact beq_refl x
 ·intro z
  rw [eq_of_beq_eq_true z]
theorem bV6 (H kp:List Nat):(rngD 0 H.length).map (knF H kp)=(ah2 H kp).map D.bl:=by
 unfold rngD ah2
 rw [map_map,map_map]
 refine map_congr_left fun i _=>?_
 show knF H kp (.int (0+(i:Int)))=_
 rw [zero_add]
 rfl
def natZ (l:List Int):List Nat:=l.map toNat
def trs (n:Nat):List (List Nat):=(sRg (thT n) 3).map natZ
theorem bM4 (l:List Nat):asI (natZ (srtI l))=srtI l:=by
 unfold asI natZ
 rw [map_map]
 conv=>rhs;rw [← map_id (srtI l)]
 refine map_congr_left fun x hx=>?_
 obtain⟨y,_,e⟩:=mem_map.mp ((al7 l).mem_iff.mp hx)
 have e:((y:Nat):Int)=x:=e
 show ((x.toNat:Nat):Int)=x
 omega
theorem aZ2 (l:List Nat):(natZ (srtI l)).Perm l:=by
 have h:=(al7 l).map toNat
 have e:(asI l).map toNat=l:=by
  unfold asI
  rw [map_map]
  conv=>rhs;rw [← map_id l]
  exact map_congr_left fun x _=>toNat_natCast x
 rw [e] at h
 exact h
theorem bM5 (n:Nat):(trs n).map asI=sRg (thT n) 3:=by
 unfold trs
 rw [map_map]
 conv=>rhs;rw [← map_id (sRg (thT n) 3)]
 refine map_congr_left fun t ht=>?_
 unfold sRg at ht
 obtain⟨g,_,rfl⟩:=mem_map.mp ht
 exact bM4 _
theorem aZ3 {n:Nat}(n1:1≤n)(n2:n≤48):trs n=(tfT n).map fun g=>natZ (srtI (rg (at0 (thT n)) 3 g)):=by
 have e:=(grp2 n1 n2).2.gs (at9 n1 n2)
 unfold trs sRg
 show map natZ (map _ (gs (at0 (thT n)) 3 (thT n).length))=_
 rw [e,map_map]
 rfl
theorem bt1 (kn:List Bool){t t':List Nat}(h:t.Perm t'):(ag9 kn t).Perm (ag9 kn t'):=h.filter _
theorem bt2 (H:List Nat)(st:List Nat×List Bool){t t':List Nat}(h:t.Perm t'):stepK H st t=stepK H st t':=by
 have hp:=bt1 st.2 h
 unfold stepK
 match e:ag9 st.2 t,e':ag9 st.2 t' with
 | [x],[y] =>
  rw [e,e'] at hp
  have:x=y:=by simpa using hp
  rw [this]
 | [],[]=>rfl
 | [x],[]=>rw [e,e'] at hp;have:=hp.length_eq;cases this
 | [x],y::z::r=>rw [e,e'] at hp;have:=hp.length_eq;simp at this
 | [],[y]=>rw [e,e'] at hp;have:=hp.length_eq;cases this
 | x::z::r,[y]=>rw [e,e'] at hp;have:=hp.length_eq;simp at this
 | [],y::z::r=>rfl
 | x::z::r,[]=>rfl
 | x::z::r,y::z'::r'=>rfl
theorem aS8 (H:List Nat)(f f':Nat→List Nat)(h:∀ g,(f g).Perm (f' g)):∀ (l:List Nat) (st:List Nat×List Bool),(l.map f).foldl (stepK H) st=(l.map f').foldl (stepK H) st
 | [],_=>rfl
 | g::l,st=>by
  rw [map_cons,map_cons,foldl_cons,foldl_cons,bt2 H st (h g)]
  exact aS8 H f f' h l _
theorem aZ4 {n:Nat}(n1:1≤n)(n2:n≤48)(H:List Nat)(st:List Nat×List Bool):aL9 H (ak5 (thT n) (tfT n)) st=(trs n).foldl (stepK H) st:=by
 rw [aZ3 n1 n2]
 exact aS8 H _ _ (fun g=>(aZ2 _).symm) _ _
theorem bt3 {kn:List Bool}(h:kn.all id=true)(t:List Nat):ag9 kn t=[]:=by
 unfold ag9
 refine List.filter_eq_nil_iff.mpr fun x _=>?_
 have:kn.getD x true=true:=by
  rw [getD_eq_getElem?_getD]
  cases e:kn[x]? with
  | none=>rfl
  | some b=>exact all_eq_true.mp h b (mem_of_getElem? e)
 rw [this]
 decide
theorem aS9 (H:List Nat):∀ (ts:List (List Nat)) {st:List Nat×List Bool},st.2.all id=true→ts.foldl (stepK H) st=st
 | [],_,_=>rfl
 | t::ts,st,h=>by
  have e:stepK H st t=st:=by
   unfold stepK
   rw [bt3 h]
  rw [foldl_cons,e]
  exact aS9 H ts h
theorem aI0 (H:List Nat)(ts:List (List Nat))(st:List Nat×List Bool){j:Nat}(h:(af6 H ts j st).2.all id=true):∀ d,af6 H ts (j+d) st=af6 H ts j st
 | 0=>rfl
 | d+1=>by
  show aL9 H ts (af6 H ts (j+d) st)=_
  rw [aI0 H ts st h d]
  exact aS9 H ts h
theorem bA5 (H:List Nat)(st:List Nat×List Bool)(t:List Nat):(stepK H st t).1.length≤st.1.length+1∧(stepK H st t).2.length=st.2.length:=by
 unfold stepK
 split
 ·exact⟨by rw [length_append];exact le_refl _,by rw [length_set,length_set]⟩
 ·exact⟨le_succ _,rfl⟩
theorem aJ6 (H:List Nat):∀ (ts:List (List Nat)) (st:List Nat×List Bool),(ts.foldl (stepK H) st).1.length≤st.1.length+ts.length∧(ts.foldl (stepK H) st).2.length=st.2.length
 | [],st=>⟨le_refl _,rfl⟩
 | t::ts,st=>by
  obtain⟨a,b⟩:=bA5 H st t
  obtain⟨c,d⟩:=aJ6 H ts (stepK H st t)
  rw [foldl_cons,length_cons]
  exact⟨by omega,by omega⟩
theorem bV7:∀ n,n≤48→psT n≤10:=by decide +kernel
def lkF (kn:List Bool):D→Option D
 | .int i=>if kn.getD i.toNat true=true then none else some (.int i)
 | _=>none
theorem bV8 (kn:List Bool)(t:List Nat):(aa8 t).filterMap (lkF kn)=aa8 (ag9 kn t):=by
 unfold aa8 ag9
 rw [filterMap_map,← List.filterMap_eq_filter,map_filterMap]
 congr 1
 funext x
 show (if kn.getD x true=true then none else some (natD x))=Option.map natD (if (!(kn.getD x true))=true then some x else none)
 cases kn.getD x true <;> rfl
theorem scSettledOrder:FnScope ["level","kept","half","told_triangles","known","order","triangle","lacking"] ["level","kept"] (aa2 ae6):=⟨rfl,rfl,rfl,by decide +kernel,rfl,by decide +kernel,by decide +kernel⟩
theorem aN1 (F:Fun K "settled_order" "settled_order" ae6 f fd)(T:Bt mg){C:Addr}(Ohalves:Own3 P w K mg base 4 "halves" ["level"] (ao9 C))(Otriangles:Own3 P w K mg base 4 "triangles" ["level"] (aq7 C thM k3F)):FnOk P w K mg base (CX1 P w) 5 f fd ["level","kept"] (lsp K (ap3 C)):=by
 refine ok3 F scSettledOrder (fun δ Q Z h=>aF7 h) fun cdv A outer s H E hr=>?_
 have nd:=scSettledOrder.nd
 have hu:=ai3 hr
 refine⟨_,(aa5 (ab8 2 (by exact nd) rfl (Or.inr rfl) (ab0 Ohalves Fr.aa6 hr rfl (aa0 (dv 0) aa3 Fr.aa1))) (aa5 (ab8 3 (by exact nd) rfl (Or.inl rfl) (ab0 Otriangles Fr.aa6 hr rfl (aa0 (dv 0) aa3 Fr.aa1))) (aa5 (ab8 4 (by exact nd) rfl (Or.inr rfl) (am3 rfl (I3.toC (am8 rfl T.range (aa0 (ag7 2 rfl T.len) aa3 Fr.ac2))) (Fr.ah9 (xs:=["number"]) (fr:=[("kept",1),("half",2)]) (sc:=aa2 ae6) (N:=["level","kept","half","told_triangles","known","order","triangle","lacking"]) rfl rfl (by decide +kernel)) (fun _ _ _ _=>(ab3 0 (show Nodup [("number" : Str),("kept" : Str),("half" : Str)] by decide +kernel) rfl (Or.inl rfl))) (fun _ _ _ _=>aq5 rfl (D3.toE (d_or (aK6 au7 r_eq (ad6 2 (dv 0)) (dv 0) (ad5 _)) (d_or (bS8 0 1 L2.aB6 bE4 rfl) (bi2 (aK6 L2.aB6 bE4 (ad6 2 (dv 0)) (dv 1) rfl)))))))) (aa5 (ab8 5 (by exact nd) rfl (Or.inl rfl) (ae4 aa3)) (aa5 (al0 PassesOwn.leaving (bL5 4 L2.aB6 cb4 d_bl rfl) (aa9 (af5 PassesOwn.leaving rfl (af4 (dv 3)) (ab3 6 (by exact nd) rfl (Or.inl rfl)) (aa5 (bL3 7 (by exact nd) rfl (Or.inl rfl) rfl (at7 6) (Fr.ah9 (xs:=["number"]) (fr:=[("known",4)]) (sc:=aa2 ae6) (N:=["level","kept","half","told_triangles","known","order","triangle","lacking"]) rfl rfl (by decide +kernel)) (fun _ _ _ _=>(ab3 0 (show Nodup [("number" : Str),("known" : Str)] by decide +kernel) rfl (Or.inl rfl))) (fun _ _ _ _=>aL3 rfl (D3.toE (dv 0)) (aT5 (aT4 (ad6 1 (dv 0)))))) (aa9 (s_if (ae7 au7 r_eq (ag7 7 rfl T.len) aa4 (ad5 _)) (aa5 (ag4 5 (ad6 7 aa4)) (aa5 (al1 4 (ad6 7 aa4) d_bl) (aa9 (al1 4 (ad6 2 (ad6 7 aa4)) d_bl)))) ah7)))))) (aa9 (ac3 (af9 5)))))))),fun δ Q Z h=>?_⟩
 obtain⟨x,y,rfl,n,hx,e1,q⟩:=az6 h
 subst e1
 obtain⟨kvs,rfl,hk,n1,n2⟩:=id hx
 obtain⟨tb1,tb2,tb3⟩:=tabs n1 n2
 have eH:leads n hvM=hvT n:=tb1
 have eT:leads n thM=thT n:=tb2
 have ch:=aX7 n1 n2
 have ct:=at9 n1 n2
 have el:(thT n).length=(hvT n).length:=by rw [aw9 n1 n2,aX5 n1 n2]
 have Kp:=as0 n1 n2
 obtain⟨g1,g2⟩:=grp2 n1 n2
 have lh:=Kp.syms
 have lI:∀ l:List Nat,(aa8 l).length=l.length:=fun l=>length_map _
 walk_at "w"
 refine⟨n,hx,fun ob=>?_⟩
 rw [av4,show (⟨0,-1,1,0⟩:Mt)=hvM from rfl,eH]
 walk_at "w"
 refine⟨n,hx,fun ob=>?_⟩
 rw [eT]
 walk_at "w"
 refine⟨⟨by rw [lI];omega,by rw [lI];omega⟩,?_⟩
 have en:(((aa8 (hvT n)).length:Nat):Int).toNat=(hvT n).length:=by rw [lI];omega
 rw [en]
 refine⟨by rw [ah8];omega,av0 (l:=[.d (lstN (kpT n)),.d (lstN (hvT n))]) rfl (knF (hvT n) (kpT n)) (fun x hx' P p=>?_) ?_⟩
 ·unfold rngD at hx'
  obtain⟨i,hi,rfl⟩:=mem_map.mp hx'
  rw [zero_add] at p ⊢
  have hi:=mem_range.mp hi
  walk_at "w"
  refine⟨_,aU1 hi,?_⟩
  have e0:knF (hvT n) (kpT n) (.int (i:Nat))=.bl (beq (at0 (hvT n) i) i || hasN (kpT n) i || hasN (kpT n) (at0 (hvT n) i)):=rfl
  rw [e0] at p
  walk_at "w"
  refine brd (fun c=>?_) (fun c=>?_)
  ·have c':at0 (hvT n) i=i:=by
    have c:((at0 (hvT n) i:Nat):Int)=(i:Nat):=c
    omega
   rw [show beq (at0 (hvT n) i) i=true by rw [c'];exact beq_refl i,Bool.true_or,Bool.true_or] at p
   exact p
  ·have cb:beq (at0 (hvT n) i) i=false:=by
    cases e:beq (at0 (hvT n) i) i with
    | false=>rfl
    | true=>exact absurd (congrArg (fun z:Nat=>(z:Int)) (eq_of_beq_eq_true e)) c
   rw [cb,Bool.false_or] at p
   walk_at "w"
   refine⟨_,asI (kpT n),rfl,aN0 _,?_⟩
   rw [aP7,bg9]
   refine br (fun c2=>?_) (fun c2=>?_)
   ·rw [c2,Bool.true_or] at p
    exact p
   ·rw [c2,Bool.false_or] at p
    walk_at "w"
    refine⟨_,aU1 hi,_,asI (kpT n),rfl,aN0 _,?_⟩
    rw [aP7,bg9]
    exact p
 rw [bV6]
 have hsR:(sRg (thT n) (k3F n)).map lstI=(trs n).map lstN:=by
  show (sRg (thT n) 3).map lstI=_
  rw [← bM5,map_map]
  exact map_congr_left fun t _=>(aN0 t).symm
 rw [hsR]
 have hO:=bT8 n n2 n1
 unfold bE0 at hO
 rw [Bool.and_eq_true] at hO
 obtain⟨hO1,hO2⟩:=hO
 have hO1:=aX3 hO1
 have pf:=bV7 n n2
 have ltr:(trs n).length≤96:=by
  rw [aZ3 n1 n2,length_map]
  have e:=g2.gs (at9 n1 n2)
  rw [← e]
  exact le_trans (length_filter_le _ _) (by rw [length_range];omega)
 have inT:∀ t∈trs n,t.length≤100∧∀ x∈t,x < (hvT n).length:=fun t ht=>by
  rw [aZ3 n1 n2] at ht
  obtain⟨g,hg,rfl⟩:=mem_map.mp ht
  have gl:=(g2.own g hg).1
  have pm:=aZ2 (rg (at0 (thT n)) 3 g)
  refine⟨?_,fun x hx=>?_⟩
  ·rw [pm.length_eq]
   unfold rg
   rw [length_map,length_range]
   have:=(aq6 ct gl).2.1
   omega
  ·have:=az9 ct gl (pm.mem_iff.mp hx)
   omega
 have lenP:∀ j,(af6 (hvT n) (ak5 (thT n) (tfT n)) j ([],ah2 (hvT n) (kpT n))).1.length≤j*96∧(af6 (hvT n) (ak5 (thT n) (tfT n)) j ([],ah2 (hvT n) (kpT n))).2.length=(hvT n).length:=fun j=>by
  induction j with
  | zero =>
   refine⟨zero_le _,?_⟩
   show (ah2 (hvT n) (kpT n)).length=_
   unfold ah2
   rw [length_map,length_range]
  | succ j ih =>
   show (aL9 (hvT n) (ak5 (thT n) (tfT n)) (af6 (hvT n) (ak5 (thT n) (tfT n)) j ([],ah2 (hvT n) (kpT n)))).1.length≤_∧_
   rw [show af6 (hvT n) (ak5 (thT n) (tfT n)) (j+1) ([],ah2 (hvT n) (kpT n))=aL9 (hvT n) (ak5 (thT n) (tfT n)) (af6 (hvT n) (ak5 (thT n) (tfT n)) j ([],ah2 (hvT n) (kpT n))) from rfl,aZ4 n1 n2]
   obtain⟨a,b⟩:=aJ6 (hvT n) (trs n) (af6 (hvT n) (ak5 (thT n) (tfT n)) j ([],ah2 (hvT n) (kpT n)))
   exact⟨by omega,by omega⟩
 generalize hps:af6 (hvT n) (ak5 (thT n) (tfT n))=ps at hO1 hO2 lenP
 have psS:∀ j st,ps (j+1) st=(trs n).foldl (stepK (hvT n)) (ps j st):=fun j st=>by
  rw [← hps]
  exact aZ4 n1 n2 _ _
 have psN:∀ j st,(ps j st).2.all id=true→∀ d,ps (j+d) st=ps j st:=fun j st h=>by
  rw [← hps] at h ⊢
  exact aI0 _ _ _ h
 have ps0:∀ st,ps 0 st=st:=fun st=>by rw [← hps];rfl
 generalize hst:(([],ah2 (hvT n) (kpT n)):List Nat×List Bool)=st0 at hO1 hO2 lenP
 walk_at "w"
 refine⟨fun m δ=>∃ (j:Nat) (s3 s6 s7:Sl),j≤psT n∧m=psT n - j∧δ=[.d (.obj C (levF n kvs)),.d (lstN (kpT n)),.d (lstN (hvT n)),s3,.own (.lst ((ps j st0).2.map D.bl)),.own (.lst (aa8 (ps j st0).1)),s6,s7]∧(s3=.own (.lst ((trs n).map lstN))∨s3=.d (.lst ((trs n).map lstN))),⟨_,0,_,.un,.un,zero_le _,rfl,?_,.inl rfl⟩,?_⟩
 ·rw [ps0,← hst]
  rfl
 rintro m δ ⟨j,s3,s6,s7,hj,rfl,rfl,hs3⟩
 have step:∀ s3:Sl,s3=.own (.lst ((trs n).map lstN))∨s3=.d (.lst ((trs n).map lstN))→True:=fun _ _=>trivial
 rcases hs3 with rfl | rfl
 all_goals
  walk_at "w"
  refine⟨false,(ps j st0).2,rfl,rfl,?_⟩
  refine br (fun c=>?_) (fun c=>?_)
  ·have jl:j < psT n:=by
    rcases lt_or_ge j (psT n) with z | z
    ·exact z
    ·have e:j=psT n:=by omega
     rw [e] at c
     obtain⟨b,hb,eb⟩:=List.any_eq_true.mp c
     have:=all_eq_true.mp hO2 b hb
     rw [beq_iff_eq] at eb
     rw [eb] at this
     cases this
   obtain⟨lp1,lp2⟩:=lenP j
   refine ae0 (fun i δ=>∃ (st:List Nat×List Bool) (s6 s7:Sl),δ=[.d (.obj C (levF n kvs)),.d (lstN (kpT n)),.d (lstN (hvT n)),.d (.lst ((trs n).map lstN)),.own (.lst (st.2.map D.bl)),.own (.lst (aa8 st.1)),s6,s7]∧st=((trs n).take i).foldl (stepK (hvT n)) (ps j st0)) ⟨_,_,_,rfl,by rw [take_zero];rfl⟩ ?_ ?_
   ·rintro i y δ N hy ⟨st,s6,s7,rfl,est⟩ hN
    rw [getElem?_map] at hy
    obtain⟨t,ht,rfl⟩:=Option.map_eq_some_iff.mp hy
    obtain⟨lt1,lt2⟩:=inT t (mem_of_getElem? ht)
    have il:i < (trs n).length:=(List.getElem?_eq_some_iff.mp ht).1
    obtain⟨fl1,fl2⟩:=aJ6 (hvT n) ((trs n).take i) (ps j st0)
    rw [← est] at fl1 fl2
    rw [length_take] at fl1
    have ls1:st.1.length≤2000:=by
     have:j*96≤10*96:=mul_le_mul_right _ (by omega)
     omega
    have nxt:((trs n).take (i+1)).foldl (stepK (hvT n)) (ps j st0)=stepK (hvT n) st t:=by
     rw [take_snoc ht,List.foldl_append,← est]
     rfl
    walk_at "w"
    refine⟨by rw [lI];omega,ai1 (l:=[.d (.lst (st.2.map D.bl))]) rfl (lkF st.2) (fun z hz P p=>?_) ?_⟩
    ·obtain⟨x,hx',rfl⟩:=mem_map.mp hz
     have xl:=lt2 x hx'
     have x2:x < st.2.length:=by omega
     walk_at "w"
     refine⟨.bl st.2[x],ag5 (by rw [getElem?_map,getElem?_eq_getElem x2];rfl),?_⟩
     have e:lkF st.2 (natD x)=if st.2[x]=true then none else some (natD x):=by
      show (if st.2.getD x true=true then none else some (natD x))=_
      rw [getD_eq_getElem?_getD,getElem?_eq_getElem x2]
      rfl
     rw [e] at p
     walk_at "w"
     refine br (fun c2=>?_) (fun c2=>?_)
     ·rw [Bool.not_eq_true'] at c2
      rw [c2] at p
      exact p
     ·rw [Bool.not_eq_false'] at c2
      rw [c2] at p
      exact p
    rw [bV8]
    refine⟨fun y hy=>?_,?_⟩
    ·obtain⟨_,_,rfl⟩:=mem_map.mp hy
     rfl
    walk_at "w"
    have el:(aa8 (ag9 st.2 t)).length=(ag9 st.2 t).length:=lI _
    refine brd (fun c2=>?_) (fun c2=>?_)
    ·have c3:(ag9 st.2 t).length=1:=by
      have c2:(((aa8 (ag9 st.2 t)).length:Nat):Int)=1:=c2
      omega
     match eL:ag9 st.2 t,c3 with
     | [x],_ =>
      have xt:x∈t:=by
       have:x∈ag9 st.2 t:=by rw [eL];exact mem_cons_self
       exact (mem_filter.mp this).1
      have xl:=lt2 x xt
      have hl:=ch.lt x xl
      have nb:∀ (bs:List Bool) (x:Nat),x < bs.length→ixN (bs.map D.bl).length ((x:Nat):Int)=some x:=fun bs x hx=>by
       unfold ixN
       rw [length_map,if_pos (by omega),if_pos (by omega)]
       simp
      walk_at "w"
      refine⟨_,rfl,by rw [lI];omega,?_⟩
      walk_at "w"
      refine⟨_,rfl,x,nb _ _ (by omega),?_⟩
      walk_at "w"
      refine⟨_,rfl,_,aU1 xl,at0 (hvT n) x,?_,?_⟩
      ·rw [← map_set (f:=D.bl) (a:=true)]
       exact nb _ _ (by rw [length_set];omega)
      ·refine hN _ ⟨stepK (hvT n) st t,.d (lstN t),.own (.lst [natD x]),?_,nxt.symm⟩
       have es:stepK (hvT n) st t=(st.1++[x],(st.2.set x true).set (at0 (hvT n) x) true):=by
        unfold stepK
        rw [eL]
       rw [es]
       show _=[_,_,_,_,Sl.own (.lst (((st.2.set x true).set (at0 (hvT n) x) true).map D.bl)),Sl.own (.lst (aa8 (st.1++[x]))),_,_]
       unfold aa8
       rw [map_set,map_set,map_append]
       rfl
    ·have es:stepK (hvT n) st t=st:=by
      have c3:(ag9 st.2 t).length≠1:=fun z=>c2 (by
       show (((aa8 (ag9 st.2 t)).length:Nat):Int)=1
       omega)
      unfold stepK
      split
      ·rename_i x e
       rw [e] at c3
       exact absurd rfl c3
      ·rfl
     exact hN _ ⟨st,_,_,rfl,by rw [nxt,es]⟩
   ·rintro δ ⟨st,s6,s7,rfl,est⟩
    rw [length_map,take_length] at est
    refine⟨psT n - (j+1),by omega,j+1,_,s6,s7,jl,rfl,?_,.inr rfl⟩
    rw [psS,← est]
  ·have al:(ps j st0).2.all id=true:=by
    refine all_eq_true.mpr fun b hb=>?_
    have:=any_eq_false.mp c b hb
    cases b with
    | true=>rfl
    | false=>exact absurd rfl this
   have e:ps (psT n) st0=ps j st0:=by
    have:=psN j st0 al (psT n - j)
    rwa [show j+(psT n - j)=psT n by omega] at this
   rw [e] at hO1
   rw [← hO1] at q
   exact q _
abbrev as4:Stmt:=top 37
def aJ7 (C:Addr):Sp3:=fun δ Q _=>match δ with
 | [.d x,.d y,.d z]=>∃ n,ai7 C n x∧y=lstN (kpT n)∧z=lstN (odT n)∧∀ ob,Q (.own (.lst ((ac5 n).map lstZ))) ob
 | _=>False
def RB (R:List (List Int))(k B:Nat):Prop:=∀ r∈R,r.length=k∧∀ e∈r,e.natAbs≤B
theorem RB.set {R:List (List Int)}{k B x:Nat}{row:List Int}(h:RB R k B)(h1:row.length=k)(h2:∀ e∈row,e.natAbs≤B):RB (R.set x row) k B:=fun r hr=>by
 rcases List.mem_or_eq_of_mem_set hr with z | z
 ·exact h r z
 ·rw [z];exact⟨h1,h2⟩
theorem RB.setl {R:List (List Int)}{H:List Nat}{k B x:Nat}{row:List Int}(h:RB R k B)(h1:row.length=k)(h2:∀ e∈row,e.natAbs≤B):RB (aj7 H R x row) k B:=by
 unfold aj7
 refine (h.set h1 h2).set (by rw [length_map];exact h1) fun e he=>?_
 obtain⟨y,hy,rfl⟩:=mem_map.mp he
 rw [natAbs_neg]
 exact h2 y hy
theorem aZ5 (H:List Nat)(R:List (List Int))(x:Nat)(row:List Int):(aj7 H R x row).length=R.length:=by
 unfold aj7
 rw [length_set,length_set]
def odOk (n:Nat):Bool:=(odT n).all fun x=>Nat.blt x (hvT n).length
theorem cb9:∀ n,n≤48→1≤n→(odOk n && ble (odT n).length 96)=true:=by decide +kernel
theorem cc0 (n:Nat)(n2:n≤48)(n1:1≤n):(∀ x∈odT n,x < (hvT n).length)∧(odT n).length≤96:=by
 have h:=cb9 n n2 n1
 rw [Bool.and_eq_true] at h
 exact⟨fun x hx=>le_of_ble_eq_true (all_eq_true.mp h.1 x hx),le_of_ble_eq_true h.2⟩
theorem bh0 (xs:List D)(i:Nat):cutD xs none (some (i:Int))=xs.take i:=by
 unfold cutD
 rw [HT.sIx_none,HT.sIx_nat]
 simp
theorem ar1 (xs:List D)(i:Nat):cutD xs (some (i:Int)) none=xs.drop i:=by
 unfold cutD
 rw [HT.sIx_none,HT.sIx_nat]
 rcases lt_or_ge i xs.length with h | h
 ·rw [Nat.min_eq_left (le_of_lt h),List.take_of_length_le (by rw [length_drop];exact le_refl _)]
 ·rw [Nat.min_eq_right h,drop_length,List.drop_of_length_le h,List.take_nil]
theorem bA6 {k i:Nat}(h:i < k):cutD (replicate k (D.int 0)) none (some (i:Int))++[D.int 1]++cutD (replicate k (D.int 0)) (some ((i:Int)+1)) none=(aj6 k i).map D.int:=by
 rw [bh0,show (i:Int)+1=((i+1:Nat):Int) from rfl,ar1,List.take_replicate,List.drop_replicate,Nat.min_eq_left (le_of_lt h)]
 unfold aj6
 rw [map_append,map_cons,map_replicate,map_replicate,append_assoc,show k - (i+1)=k - i - 1 by omega]
 rfl
theorem aZ6 {m:Int}{e:Int}:∀ {row other:List Int},e∈addZ row other m→∃ a b,a∈row∧b∈other∧e=a+m*b
 | [],_,h=>by cases h
 | _::_,[],h=>by cases h
 | a::r,b::o,h=>by
  rcases mem_cons.mp h with h | h
  ·exact⟨a,b,mem_cons_self,mem_cons_self,h⟩
  ·obtain⟨a',b',h1,h2,e⟩:=aZ6 h
   exact⟨a',b',mem_cons_of_mem _ h1,mem_cons_of_mem _ h2,e⟩
theorem scRowsBy:FnScope ["level","kept","order","half","third","noughts","rows","at","number","row","other"] ["level","kept","order"] (aa2 as4):=⟨rfl,rfl,rfl,by decide +kernel,rfl,by decide +kernel,by decide +kernel⟩
theorem bt4 (F:Fun K "rows_by" "rows_by" as4 f fd)(T:Bt mg){C:Addr}(Ohalves:Own3 P w K mg base 4 "halves" ["level"] (ao9 C))(Othirds:Own3 P w K mg base 4 "thirds" ["level"] (aA4 C))(Osettle:Own3 P w K mg base 4 "settle" ["rows","half","number","row"] aJ5)(Oring_from:Own3 P w K mg base 4 "ring_from" ["leads","first"] aM9)(Oadded:Own3 P w K mg base 4 "added" ["row","many","other"] aG9):FnOk P w K mg base (CX1 P w) 5 f fd ["level","kept","order"] (lsp K (aJ7 C)):=by
 refine ok3 F scRowsBy (fun δ Q Z h=>aL5 h) fun cdv A outer s H E hr=>?_
 have nd:=scRowsBy.nd
 have hu:=ai3 hr
 refine⟨_,(aa5 (ar4 3 4 rfl (by exact nd) rfl rfl (by decide) rfl rfl (aa0 (E3.toD (ab0 Ohalves Fr.aa6 hr rfl (aa0 (dv 0) aa3 Fr.aa1))) (aa0 (E3.toD (ab0 Othirds Fr.aa6 hr rfl (aa0 (dv 0) aa3 Fr.aa1))) aa3 Fr.ac2) Fr.ac2)) (aa5 (ab8 5 (by exact nd) rfl (Or.inl rfl) (aq3 at3 az0 (E3.toD (ae4 (aa0 aa4 aa3 Fr.aa7))) (ag7 1 rfl T.len))) (aa5 (ab8 6 (by exact nd) rfl (Or.inl rfl) (aq3 at3 az0 (E3.toD (ae4 (aa0 (dv 5) aa3 Fr.aa1))) (ag7 3 rfl T.len))) (aa5 (af5 PassesOwn.leaving rfl (bo5 rfl T.enumerate (aa0 (dv 1) aa3 Fr.aa1)) (ae8 (n:=2) rfl (ab6 (ab3 7 (by exact nd) rfl (Or.inl rfl)) (ab6 (ab3 8 (by exact nd) rfl (Or.inl rfl)) ad9))) (aa9 (bn9 (bd5 6 Osettle Fr.aa6 hr rfl (aa0 (dv 3) (aa0 (dv 8) (aa0 (E3.toD (aq3 aU9 bi5 (E3.toD (aq3 aU9 bi5 (E3.toD (aw3 (dv 5) aC5 (aC6 (dv 7)))) (E3.toD (ae4 (aa0 aa4 aa3 Fr.aa7))))) (E3.toD (aw3 (dv 5) (aC6 (d_op ac7 ad2 (dv 7) aa4)) aC5)))) aa3 Fr.ab7) Fr.aa1) Fr.aa1))))) (aa5 (af5 PassesOwn.leaving rfl (af4 (dv 2)) (ab3 8 (by exact nd) rfl (Or.inl rfl)) (aa5 (ab8 9 (by exact nd) rfl (Or.inl rfl) (D3.toE (dv 5))) (aa5 (af5 PassesOwn.leaving rfl (af4 (E3.toD (aw3 (E3.toD (ab0 Oring_from Fr.aa6 hr rfl (aa0 (dv 4) (aa0 (dv 8) aa3 Fr.aa1) Fr.aa1))) (aC6 aa4) aC5))) (ab3 10 (by exact nd) rfl (Or.inl rfl)) (aa9 (ab8 9 (by exact nd) rfl (Or.inl rfl) (ab0 Oadded Fr.aa6 hr rfl (aa0 (dv 9) (aa0 (ak3 aa4) (aa0 (ad6 6 (dv 10)) aa3) Fr.aw4) Fr.aa1))))) (aa9 (bn9 (bd5 6 Osettle Fr.aa6 hr rfl (aa0 (dv 3) (aa0 (dv 8) (aa0 (dv 9) aa3 Fr.aa1) Fr.aa1) Fr.aa1))))))) (aa9 (ac3 (af9 6)))))))),fun δ Q Z h=>?_⟩
 obtain⟨x,y,z,rfl,n,hx,e1,e2,q⟩:=aC9 h
 subst e1 e2
 obtain⟨kvs,rfl,hk,n1,n2⟩:=id hx
 obtain⟨tb1,tb2,tb3⟩:=tabs n1 n2
 have eH:leads n hvM=hvT n:=tb1
 have eT:leads n thM=thT n:=tb2
 have ch:=aX7 n1 n2
 have ct:=at9 n1 n2
 have el:(thT n).length=(hvT n).length:=by rw [aw9 n1 n2,aX5 n1 n2]
 have Kp:=as0 n1 n2
 have lh:=Kp.syms
 have lk:=Kp.few
 have lI:∀ l:List Nat,(aa8 l).length=l.length:=fun l=>length_map _
 walk_at "w"
 refine⟨n,hx,fun ob=>?_⟩
 rw [av4,show (⟨0,-1,1,0⟩:Mt)=hvM from rfl,eH]
 walk_at "w"
 refine⟨n,hx,fun ob=>?_⟩
 rw [av4,show (⟨1,-1,1,0⟩:Mt)=thM from rfl,eT]
 walk_at "w"
 refine⟨⟨by omega,by rw [lI];omega,by decide⟩,?_⟩
 have e1:(((aa8 (kpT n)).length:Nat):Int).toNat=(kpT n).length:=by rw [lI];omega
 have e2:(((aa8 (hvT n)).length:Nat):Int).toNat=(hvT n).length:=by rw [lI];omega
 rw [aj2,e1]
 walk_at "w"
 refine⟨⟨by omega,by rw [lI];omega,(show (1:Nat)≤10 by decide)⟩,?_⟩
 rw [aj2,e2]
 have e3:replicate (hvT n).length (D.lst (replicate (kpT n).length (D.int 0)))=(replicate (hvT n).length (replicate (kpT n).length (0:Int))).map lstZ:=by
  rw [map_replicate]
  unfold lstZ
  rw [map_replicate]
 rw [e3]
 have lO:=cc0 n n2 n1
 have R0:RB (replicate (hvT n).length (replicate (kpT n).length (0:Int))) (kpT n).length 1:=fun r hr=>by
  rw [(mem_replicate.mp hr).2]
  exact⟨length_replicate,fun e he=>by rw [(mem_replicate.mp he).2];decide⟩
 generalize hR0:replicate (hvT n).length (replicate (kpT n).length (0:Int))=RR at R0
 have lRR:RR.length=(hvT n).length:=by rw [← hR0];exact length_replicate
 refine ae0 (fun i δ=>∃ (R:List (List Int)) (s7 s8 s9 s10:Sl),δ=[.d (.obj C (levF n kvs)),.d (lstN (kpT n)),.d (lstN (odT n)),.d (lstN (hvT n)),.d (lstN (thT n)),.d (.lst (replicate (kpT n).length (D.int 0))),.own (.lst (R.map lstZ)),s7,s8,s9,s10]∧R.length=(hvT n).length∧RB R (kpT n).length 1∧aA1 (hvT n) (kpT n).length i ((kpT n).drop i) R=aA1 (hvT n) (kpT n).length 0 (kpT n) RR) ⟨RR,_,_,_,_,rfl,lRR,R0,rfl⟩ ?_ ?_
 ·rintro i y δ N hy ⟨R,s7,s8,s9,s10,rfl,lR,bR,eR⟩ hN
  obtain⟨z,hz,rfl⟩:=aW6 hy
  unfold aa8 at hz
  rw [getElem?_map] at hz
  obtain⟨x,hx2,rfl⟩:=Option.map_eq_some_iff.mp hz
  have xl:=Kp.lt x (mem_of_getElem? hx2)
  have hl:=ch.lt x xl
  have il:i < (kpT n).length:=(List.getElem?_eq_some_iff.mp hx2).1
  have ed:(kpT n).drop i=x::(kpT n).drop (i+1):=by
   rw [drop_eq_getElem_cons il,(List.getElem?_eq_some_iff.mp hx2).2]
  rw [ed] at eR
  have eR:aA1 (hvT n) (kpT n).length (i+1) ((kpT n).drop (i+1)) (aj7 (hvT n) R x (aj6 (kpT n).length i))=aA1 (hvT n) (kpT n).length 0 (kpT n) RR:=eR
  have ixx:∀ m:Nat,m < R.length→ixN (R.map lstZ).length ((m:Nat):Int)=some m:=fun m hm=>by
   unfold ixN
   rw [length_map,if_pos (by omega),if_pos (by omega)]
   simp
  have eU:=bA6 (k:=(kpT n).length) il
  have lc1:(cutD (replicate (kpT n).length (D.int 0)) none (some (i:Int))).length≤100:=by
   rw [bh0,length_take,length_replicate]
   omega
  have lc2:(cutD (replicate (kpT n).length (D.int 0)) (some ((i:Int)+1)) none).length≤100:=by
   rw [show (i:Int)+1=((i+1:Nat):Int) from rfl,ar1,length_drop,length_replicate]
   omega
  have lu:(aj6 (kpT n).length i).length=(kpT n).length:=by
   unfold aj6
   rw [length_append,length_cons,length_replicate,length_replicate]
   omega
  have bu:∀ e∈aj6 (kpT n).length i,e.natAbs≤1:=fun e he=>by
   unfold aj6 at he
   rcases mem_append.mp he with z | z
   ·rw [(mem_replicate.mp z).2];decide
   ·rcases mem_cons.mp z with rfl | z
    ·decide
    ·rw [(mem_replicate.mp z).2];decide
  walk_at "w"
  refine⟨by show _+1≤_;omega,?_⟩
  walk_at "w"
  refine⟨by rw [length_append];show _+1+_≤_;omega,?_⟩
  walk_at "w"
  refine⟨R,hvT n,x,aj6 (kpT n).length i,rfl,rfl,rfl,congrArg D.lst eU,by omega,xl,by omega,by omega,?_⟩
  exact hN _ ⟨aj7 (hvT n) R x (aj6 (kpT n).length i),_,_,_,_,rfl,by rw [aZ5];exact lR,bR.setl lu bu,eR⟩
 rintro δ ⟨R,s7,s8,s9,s10,rfl,lR,bR,eR⟩
 have lE:(av1 (aa8 (kpT n))).length=(kpT n).length:=by rw [al2,lI]
 rw [lE,drop_length] at eR
 have eR:R=aA1 (hvT n) (kpT n).length 0 (kpT n) RR:=eR
 have fin:aM0 (hvT n) (thT n) (kpT n).length (odT n) R=ac5 n:=by rw [eR,← hR0];rfl
 walk_at "w"
 refine ae0 (fun i δ=>∃ (R:List (List Int)) (s7 s8 s9 s10:Sl),δ=[.d (.obj C (levF n kvs)),.d (lstN (kpT n)),.d (lstN (odT n)),.d (lstN (hvT n)),.d (lstN (thT n)),.d (.lst (replicate (kpT n).length (D.int 0))),.own (.lst (R.map lstZ)),s7,s8,s9,s10]∧R.length=(hvT n).length∧RB R (kpT n).length (3 ^ i)∧aM0 (hvT n) (thT n) (kpT n).length ((odT n).drop i) R=ac5 n) ⟨R,_,_,_,_,rfl,lR,bR,fin⟩ ?_ ?_
 ·rintro i y δ N hy ⟨R,s7,s8,s9,s10,rfl,lR,bR,eR⟩ hN
  unfold aa8 at hy
  rw [getElem?_map] at hy
  obtain⟨x,hx2,rfl⟩:=Option.map_eq_some_iff.mp hy
  have xl:=lO.1 x (mem_of_getElem? hx2)
  have hl:=ch.lt x xl
  have il:i < (odT n).length:=(List.getElem?_eq_some_iff.mp hx2).1
  have ed:(odT n).drop i=x::(odT n).drop (i+1):=by
   rw [drop_eq_getElem_cons il,(List.getElem?_eq_some_iff.mp hx2).2]
  rw [ed] at eR
  have eR:aM0 (hvT n) (thT n) (kpT n).length ((odT n).drop (i+1)) (aj7 (hvT n) R x (rowB (thT n) (kpT n).length R x))=ac5 n:=eR
  walk_at "w"
  refine⟨thT n,3,x,rfl,⟨ct,by decide,by omega⟩,rfl,by omega,fun ob=>?_⟩
  walk_at "w"
  rw [show (some (1:Int))=some (((1:Nat):Int)) from rfl,ar1]
  have eT2:(aa8 (rg (ldp (thT n)) 3 x)).drop 1=aa8 (rg (at0 (thT n)) 3 x).tail:=by
   unfold aa8
   rw [← map_drop,drop_one]
   rfl
  rw [eT2]
  have lt2:(rg (at0 (thT n)) 3 x).tail.length≤2:=by
   rw [length_tail]
   unfold rg
   rw [length_map,length_range]
   have:=(aq6 ct (show x < (thT n).length by omega)).2.1
   omega
  have b3:3 ^ i < 2 ^ 160:=lt_of_le_of_lt (pow_le_pow_right (by decide) (show i≤96 by omega)) (by decide)
  refine ae0 (fun j δ=>∃ (row:List Int) (s9 s10:Sl),δ=[.d (.obj C (levF n kvs)),.d (lstN (kpT n)),.d (lstN (odT n)),.d (lstN (hvT n)),.d (lstN (thT n)),.d (.lst (replicate (kpT n).length (D.int 0))),.own (.lst (R.map lstZ)),s7,.d (natD x),s9,s10]∧(s9=.d (lstZ row)∨s9=.own (.lst (row.map D.int)))∧row.length=(kpT n).length∧(∀ e∈row,e.natAbs≤j*3 ^ i)∧row=((rg (at0 (thT n)) 3 x).tail.take j).foldl (fun row o=>addZ row (R.getD o []) (-1)) (replicate (kpT n).length 0)) ⟨replicate (kpT n).length 0,_,_,rfl,.inl (by unfold lstZ;rw [map_replicate];rfl),length_replicate,fun e he=>by rw [(mem_replicate.mp he).2];exact zero_le _,by rw [take_zero];rfl⟩ ?_ ?_
  ·rintro j y δ N2 hy2 ⟨row,s9,s10,rfl,hs9,lrow,brow,erow⟩ hN2
   unfold aa8 at hy2
   rw [getElem?_map] at hy2
   obtain⟨o,ho,rfl⟩:=Option.map_eq_some_iff.mp hy2
   have ol:o < (hvT n).length:=by
    have:=az9 ct (show x < (thT n).length by omega) (List.mem_of_mem_tail (mem_of_getElem? ho))
    omega
   have oR:o < R.length:=by omega
   have eo:R[o]?=some (R.getD o []):=by rw [getD_eq_getElem?_getD,getElem?_eq_getElem oR];rfl
   have io:atI (R.map lstZ) ((o:Nat):Int)=some (lstZ (R.getD o [])):=ag5 (by rw [getElem?_map,eo];rfl)
   obtain⟨lo,bo⟩:=bR _ (mem_of_getElem? eo)
   have fo:∀ e∈R.getD o [],Fit e:=fun e he=>lt_of_le_of_lt (bo e he) (lt_of_lt_of_le b3 (pow_le_pow_right (by decide) (by decide)))
   have nxt:addZ row (R.getD o []) (-1)=((rg (at0 (thT n)) 3 x).tail.take (j+1)).foldl (fun row o=>addZ row (R.getD o []) (-1)) (replicate (kpT n).length 0):=by
    rw [take_snoc ho,List.foldl_append,← erow]
    rfl
   rcases hs9 with rfl | rfl
   all_goals
    walk_at "w"
    refine⟨_,io,row,R.getD o [],rfl,rfl,⟨fitI (by decide),fo⟩,by omega,fun ob=>?_⟩
    refine hN2 _ ⟨addZ row (R.getD o []) (-1),.own (.lst ((addZ row (R.getD o []) (-1)).map D.int)),.d (natD o),rfl,.inr rfl,?_,fun e he=>?_,nxt⟩
    ·unfold addZ
     rw [List.length_zipWith]
     omega
    ·obtain⟨a,b,ha,hb,rfl⟩:=aZ6 he
     have h1:=brow a ha
     have h2:=bo b hb
     have:(j+1)*3 ^ i=j*3 ^ i+3 ^ i:=Nat.succ_mul _ _
     omega
  ·rintro δ ⟨row,s9,s10,rfl,hs9,lrow,brow,erow⟩
   rw [lI,take_length] at erow
   have erow:row=rowB (thT n) (kpT n).length R x:=erow
   rw [← erow] at eR
   have brow3:∀ e∈row,e.natAbs≤3 ^ (i+1):=fun e he=>by
    have h1:=brow e he
    rw [lI] at h1
    have h2:(rg (at0 (thT n)) 3 x).tail.length*3 ^ i≤2*3 ^ i:=mul_le_mul_right _ lt2
    rw [pow_succ]
    omega
   have bR3:RB R (kpT n).length (3 ^ (i+1)):=fun r hr=>⟨(bR r hr).1,fun e he=>by
    have:=(bR r hr).2 e he
    rw [pow_succ]
    omega⟩
   rcases hs9 with rfl | rfl
   all_goals
    walk_at "w"
    refine⟨R,hvT n,x,row,rfl,rfl,rfl,rfl,by omega,xl,by omega,by omega,?_⟩
    exact hN _ ⟨aj7 (hvT n) R x row,_,_,_,_,rfl,by rw [aZ5];exact lR,bR3.setl lrow brow3,eR⟩
 rintro δ ⟨R,s7,s8,s9,s10,rfl,lR,bR,eR⟩
 rw [lI,drop_length] at eR
 have eR:R=ac5 n:=eR
 rw [← eR] at q
 exact q _
end
end
noncomputable section
structure Plc (p:Int×Int):Prop where
 spot:IsSpot p.1 p.2
 b1:p.1.natAbs < 2 ^ 170
 b2:p.2.natAbs < 2 ^ 170
theorem Plc.nn {p:Int×Int}(h:Plc p):0≤p.2:=h.spot.nn
def plD (t:Int×Int):D:=.tup [.int t.1,.int t.2]
def plZ (l:List (Int×Int)):List D:=l.map plD
theorem av5 {x y:Int}(hy:y.natAbs < 2 ^ 170):(ae2 x y).length≤341:=aR3 170 x y (by omega)
theorem aT0 {x y:Int}(hx:x.natAbs < 2 ^ 170)(hy:y.natAbs < 2 ^ 170):∀ k∈ae2 x y,k.natAbs < 2 ^ 170:=fun k hk=>by
 have:=aR4 y.toNat x y (le_refl _) (2 ^ 170 - 1) (by omega) (by omega) k hk
 omega
theorem aA6 {p:Int×Int}(h:Plc p):∀ q∈stps p,Fit q.1∧Fit q.2:=fun q hq=>by
 have b:=bb0 170 (0,1) (1,0) (ae2 p.1 p.2) (aT0 h.b1 h.b2) 1 (by decide) (by decide) (by decide) (by decide) q hq
 have l:=av5 (x:=p.1) h.b2
 have m:1+(ae2 p.1 p.2).length*(170+1)≤65536:=by omega
 exact⟨lt_of_lt_of_le b.1 (pow_le_pow_right (by decide) m),lt_of_lt_of_le b.2 (pow_le_pow_right (by decide) m)⟩
theorem aj3 {p:Int×Int}(h:Plc p):(stps p).length≤342:=by
 unfold stps
 rw [ar3]
 have:=av5 (x:=p.1) h.b2
 omega
section
variable {P:Program}{w:World}{K:PySem.W.Frag}{mg:Str→Option Value}{base:Heap}{f:Addr}{fd:FuncData}
abbrev al9:Stmt:=top 8
def aA7:Sp3:=fun δ Q _=>match δ with
 | [.d (.int x),.d (.int y)]=>0≤y∧y.natAbs < 2 ^ 170∧∀ ob,Q (.own (.lst ((ae2 x y).map D.int))) ob
 | _=>False
theorem scDivision:FnScope ["top","bottom","told","whole","rest"] ["top","bottom"] (aa2 al9):=⟨rfl,rfl,rfl,by decide +kernel,rfl,by decide +kernel,by decide +kernel⟩
theorem bb6 (F:Fun K "division" "division" al9 f fd)(T:Bt mg):FnOk P w K mg base (CX1 P w) 1 f fd ["top","bottom"] (lsp K aA7):=by
 refine ok3 F scDivision (fun δ Q Z h=>av2 h) fun cdv A outer s H E hr=>?_
 have nd:=scDivision.nd
 refine⟨_,(aa5 (ab8 2 (by exact nd) rfl (Or.inl rfl) (ae4 aa3)) (aa5 (al0 PassesOwn.leaving (ae7 ay2 r_ne (dv 1) aa4 (ad5 _)) (aa5 (aq2 (bw3 rfl T.divmod boot_divmod (aa0 (dv 0) (aa0 (dv 1) aa3 Fr.aa1) Fr.aa1)) (ae8 (n:=2) rfl (ab6 (ab3 3 (by exact nd) rfl (Or.inl rfl)) (ab6 (ab3 4 (by exact nd) rfl (Or.inl rfl)) ad9)))) (aa5 (ag4 2 (dv 3)) (aa9 (ar4 0 1 rfl (by exact nd) rfl rfl (by decide) rfl rfl (aa0 (dv 1) (aa0 (dv 4) aa3 Fr.aa1) Fr.aa1)))))) (aa9 (ac3 (af9 2))))),fun δ Q Z h=>?_⟩
 obtain⟨x,y,rfl,y0,by',q⟩:=ar7 h
 have lid:=av5 (x:=x) by'
 walk_at "w"
 refine⟨fun m δ=>∃ (a b:Int) (told:List Int) (s3 s4:Sl),δ=[.d (.int a),.d (.int b),.own (.lst (told.map D.int)),s3,s4]∧0≤b∧b.natAbs < 2 ^ 170∧m=b.natAbs∧told++ae2 a b=ae2 x y,⟨_,x,y,[],_,_,rfl,y0,by',rfl,rfl⟩,?_⟩
 rintro m δ ⟨a,b,told,s3,s4,rfl,b0,bb,rfl,e⟩
 have p170:(2:Nat) ^ 170≤2 ^ 250:=by decide
 have p250:((2 ^ 250:Nat):Int)=(2:Int) ^ 250:=by norm_cast
 walk_at "w"
 refine brn (fun c=>?_) (fun c=>?_)
 ·have bp:0 < b:=by omega
  have lt:(told.map D.int).length≤1000000:=by
   rw [length_map]
   have:=congrArg length e
   rw [length_append] at this
   omega
  walk_at "w"
  refine⟨⟨bp,by omega⟩,?_⟩
  walk_at "w"
  refine⟨lt,(a % b).natAbs,?_,b,a % b,told++[a / b],.d (.int (a / b)),.d (.int (a % b)),?_,emod_nonneg a c,?_,rfl,?_⟩
  ·have h1:=emod_nonneg a c
   have h2:=emod_lt_of_pos a bp
   omega
  ·rw [map_append]
   rfl
  ·have h1:=emod_nonneg a c
   have h2:=emod_lt_of_pos a bp
   omega
  ·rw [ag0 bp] at e
   rw [append_assoc]
   exact e
 ·subst c
  rw [ag1 (Int.le_refl 0),append_nil] at e
  rw [← e] at q
  exact q _
abbrev ax4:Stmt:=top 12
def aP8:Sp3:=fun δ Q _=>match δ with
 | [.d y]=>∃ p:Int×Int,y=plD p∧Plc p∧∀ ob,Q (.own (.lst (plZ (stps p)))) ob
 | _=>False
theorem scSteps:FnScope ["place","before","last","steps","number"] ["place"] (aa2 ax4):=⟨rfl,rfl,rfl,by decide +kernel,rfl,by decide +kernel,by decide +kernel⟩
theorem bA7 {bA:Addr}(F:Fun K "steps_to" "steps_to" ax4 f fd)(T:Bt mg)(m_BEYOND:mg "BEYOND"=some (.ref bA))(sB:∀ F,Rp K F (.ref bA) (.tup [.int 1,.int 0]))(Odivision:Own3 P w K mg base 1 "division" ["top","bottom"] aA7):FnOk P w K mg base (CX1 P w) 2 f fd ["place"] (lsp K aP8):=by
 refine ok3 F scSteps (fun δ Q Z h=>ln_d h) fun cdv A outer s H E hr=>?_
 have nd:=scSteps.nd
 refine⟨_,(aa5 (ar4 1 2 rfl (by exact nd) rfl rfl (by decide) rfl rfl (aa0 (ad1 (aa0 aa4 (aa0 aa4 aa3 Fr.aa7) Fr.aa7)) (aa0 (bn7 rfl m_BEYOND (v:=.ref bA) rfl sB) aa3 Fr.aa1) Fr.ac6)) (aa5 (ab8 3 (by exact nd) rfl (Or.inl rfl) (ae4 (aa0 (dv 2) aa3 Fr.aa1))) (aa5 (af5 PassesOwn.leaving rfl (af4 (E3.toD (ab0 Odivision Fr.aa6 hr rfl (aa0 (ad3 (dv 0) aa4) (aa0 (ad3 (dv 0) aa4) aa3))))) (ab3 4 (by exact nd) rfl (Or.inl rfl)) (aa5 (ar4 1 2 rfl (by exact nd) rfl rfl (by decide) rfl rfl (aa0 (dv 2) (aa0 (ad1 (aa0 (d_op ac7 ad2 (d_op Fr.ac1 ac9 (dv 4) (ad3 (dv 2) aa4)) (ad3 (dv 1) aa4)) (aa0 (d_op ac7 ad2 (d_op Fr.ac1 ac9 (dv 4) (ad3 (dv 2) aa4)) (ad3 (dv 1) aa4)) aa3 Fr.ab7) Fr.ab7)) aa3 Fr.ac6) Fr.aa1)) (aa9 (ag4 3 (dv 2))))) (aa9 (ac3 (af9 3)))))),fun δ Q Z h=>?_⟩
 obtain⟨y,rfl,p,e,hp,q⟩:=iv_d h
 subst e
 have lid:=av5 (x:=p.1) hp.b2
 have kb:=aT0 hp.b1 hp.b2
 have f17:∀ k:Int,k.natAbs < 2 ^ 170→Fit k:=fun k h=>lt_of_lt_of_le h (pow_le_pow_right (by decide) (by decide))
 walk_at "w"
 refine⟨_,rfl,?_⟩
 walk_at "w"
 refine⟨_,rfl,hp.nn,hp.b2,fun ob=>?_⟩
 refine ae0 (fun i δ=>∃ (G:List (Int×Int)) (b l:Int×Int) (s4:Sl),δ=[.d (plD p),.d (plD b),.d (plD l),.own (.lst (plZ (G++[l]))),s4]∧stps p=G++ad0 b l ((ae2 p.1 p.2).drop i)) ⟨[],(0,1),(1,0),_,rfl,rfl⟩ ?_ ?_
 ·rintro i y δ N hy ⟨G,b,l,s4,rfl,hG⟩ hN
  rw [getElem?_map] at hy
  obtain⟨k,hk,rfl⟩:=Option.map_eq_some_iff.mp hy
  have il:=(List.getElem?_eq_some_iff.mp hk).1
  have ed:(ae2 p.1 p.2).drop i=k::(ae2 p.1 p.2).drop (i+1):=by
   rw [drop_eq_getElem_cons il,(List.getElem?_eq_some_iff.mp hk).2]
  have fk:=f17 k (kb k (mem_of_getElem? hk))
  have lin:l∈stps p:=by
   rw [hG,ed]
   simp [ad0]
  obtain⟨fl1,fl2⟩:=aA6 hp l lin
  have gl:(plZ (G++[l])).length≤1000000:=by
   have h1:=congrArg length hG
   have h2:=aj3 hp
   rw [length_append,ar3] at h1
   unfold plZ
   rw [length_map,length_append]
   show _+1≤_
   omega
  walk_at "w"
  refine⟨_,rfl,⟨fk,fl1⟩,?_⟩
  walk_at "w"
  refine⟨_,rfl,?_⟩
  walk_at "w"
  refine⟨_,rfl,⟨fk,fl2⟩,?_⟩
  walk_at "w"
  refine⟨_,rfl,?_⟩
  walk_at "w"
  refine⟨gl,hN _ ⟨G++[l],l,(k*l.1+b.1,k*l.2+b.2),.d (.int k),?_,?_⟩⟩
  ·unfold plZ
   rw [map_append (l₁:=G++[l])]
   rfl
  ·rw [hG,ed,append_assoc]
   rfl
 ·rintro δ ⟨G,b,l,s4,rfl,hG⟩
  rw [length_map,drop_length] at hG
  have hG:stps p=G++[l]:=hG
  rw [hG] at q
  exact q _
abbrev sWay:Stmt:=top 13
def bk2:Sp3:=fun δ Q _=>match δ with
 | [.d y,.d z]=>∃ p p':Int×Int,y=plD p∧z=plD p'∧Plc p∧Plc p'∧∀ ob,Q (.own (.lst (plZ (wayP p p')))) ob
 | _=>False
theorem scWay:FnScope ["one","other"] ["one","other"] (aa2 sWay):=⟨rfl,rfl,rfl,by decide +kernel,rfl,by decide +kernel,by decide +kernel⟩
theorem bV9 (F:Fun K "way" "way" sWay f fd)(T:Bt mg)(Osteps_to:Own3 P w K mg base 2 "steps_to" ["place"] aP8):FnOk P w K mg base (CX1 P w) 3 f fd ["one","other"] (lsp K bk2):=by
 refine ok3 F scWay (fun δ Q Z h=>aF7 h) fun cdv A outer s H E hr=>?_
 have nd:=scWay.nd
 refine⟨_,(aa9 (ac3 (aq3 aU9 bi5 (E3.toD (ca1 (E3.toD (ab0 Osteps_to Fr.aa6 hr rfl (aa0 (dv 0) aa3 Fr.aa1))))) (E3.toD (aw3 (E3.toD (ab0 Osteps_to Fr.aa6 hr rfl (aa0 (dv 1) aa3 Fr.aa1))) (aC6 aa4) aC5))))),fun δ Q Z h=>?_⟩
 obtain⟨y,z,rfl,p,p',e1,e2,h1,h2,q⟩:=az6 h
 subst e1 e2
 have l1:=aj3 h1
 have l2:=aj3 h2
 walk_at "w"
 refine⟨p,rfl,h1,fun ob=>?_⟩
 walk_at "w"
 refine⟨p',rfl,h2,fun ob=>?_⟩
 walk_at "w"
 rw [show (some (1:Int))=some (((1:Nat):Int)) from rfl,ar1]
 refine⟨by rw [length_reverse,length_drop];unfold plZ;rw [length_map,length_map];omega,?_⟩
 have e:(plZ (stps p)).reverse++(plZ (stps p')).drop 1=plZ (wayP p p'):=by
  unfold plZ wayP
  rw [← List.map_reverse,← map_drop,map_append,drop_one]
 rw [e]
 exact q _
abbrev ap4:Stmt:=top 11
def aE3:Sp3:=fun δ Q _=>match δ with
 | [.d y,.d z]=>∃ p p':Int×Int,y=plD p∧z=plD p'∧(Fit p.1∧Fit p.2)∧(Fit p'.1∧Fit p'.2)∧Q (.d (.int (crs p p'))) none
 | _=>False
theorem scCrossed:FnScope ["one","other"] ["one","other"] (aa2 ap4):=⟨rfl,rfl,rfl,by decide +kernel,rfl,by decide +kernel,by decide +kernel⟩
theorem bk3 (F:Fun K "crossed" "crossed" ap4 f fd)(T:Bt mg):FnOk P w K mg base (CX1 P w) 1 f fd ["one","other"] (lsp K aE3):=by
 refine ok3 F scCrossed (fun δ Q Z h=>aF7 h) fun cdv A outer s H E hr=>?_
 have nd:=scCrossed.nd
 refine⟨_,(aa9 (ac3 (D3.toE (d_op ag6 ai6 (d_op Fr.ac1 ac9 (ad3 (dv 0) aa4) (ad3 (dv 1) aa4)) (d_op Fr.ac1 ac9 (ad3 (dv 1) aa4) (ad3 (dv 0) aa4)))))),fun δ Q Z h=>?_⟩
 obtain⟨y,z,rfl,p,p',e1,e2,⟨f1,f2⟩,⟨f3,f4⟩,q⟩:=az6 h
 subst e1 e2
 walk_at "w"
 refine⟨_,rfl,_,rfl,⟨f1,f4⟩,?_⟩
 walk_at "w"
 refine⟨_,rfl,_,rfl,⟨f3,f2⟩,?_⟩
 exact q
abbrev aj4:Stmt:=top 38
def aA8 (C:Addr):Sp3:=fun δ Q _=>match δ with
 | [.d x,.d y,.d z]=>∃ (n:Nat) (p p':Int×Int),ai7 C n x∧y=plD p∧z=plD p'∧Plc p∧Plc p'∧∀ ob,Q (.own (.lst (aa8 (rdN n (wayP p p'))))) ob
 | _=>False
def rsF (n:Nat):D→D
 | .tup [.tup [.int a,.int b],.tup [.int c,.int d]]=>natD (symN n (a,b) (c,d))
 | y=>y
theorem bh1:∀ {w:List (Int×Int)},Adj w→∀ z∈zipD (plZ w) (plZ w.tail),∃ x y,z=.tup [plD x,plD y]∧NextTo x y∧x∈w∧y∈w
 | [],_,_,h=>by cases h
 | [_],_,_,h=>by cases h
 | x::y::r,a,z,h=>by
  rcases mem_cons.mp h with rfl | h
  ·exact⟨x,y,rfl,a.1,mem_cons_self,mem_cons_of_mem _ mem_cons_self⟩
  ·obtain⟨x',y',e,h1,h2,h3⟩:=bh1 a.2 z h
   exact⟨x',y',e,h1,mem_cons_of_mem _ h2,mem_cons_of_mem _ h3⟩
theorem bt5 (n:Nat):∀ w:List (Int×Int),(zipD (plZ w) (plZ w.tail)).map (rsF n)=aa8 (rdN n w)
 | []=>rfl
 | [_]=>rfl
 | x::y::r=>congrArg (natD (symN n x y)::·) (bt5 n (y::r))
theorem scRoadSyms:FnScope ["level","one","other","walk"] ["level","one","other"] (aa2 aj4):=⟨rfl,rfl,rfl,by decide +kernel,rfl,by decide +kernel,by decide +kernel⟩
theorem bb7 (F:Fun K "road_symbols" "road_symbols" aj4 f fd)(T:Bt mg){C gS:Addr}(MLevel_number_of:MtOk P w K mg base 3 C "number_of" ["self","u","v"] (ah1 C gS))(Oway:Own3 P w K mg base 3 "way" ["one","other"] bk2)(Ocrossed:Own3 P w K mg base 3 "crossed" ["one","other"] aE3):FnOk P w K mg base (CX1 P w) 4 f fd ["level","one","other"] (lsp K (aA8 C)):=by
 refine ok3 F scRoadSyms (fun δ Q Z h=>aL5 h) fun cdv A outer s H E hr=>?_
 have nd:=scRoadSyms.nd
 have hu:=ai3 hr
 refine⟨_,(aa5 (ab8 3 (by exact nd) rfl (Or.inl rfl) (ab0 Oway Fr.aa6 hr rfl (aa0 (dv 1) (aa0 (dv 2) aa3 Fr.aa1) Fr.aa1))) (aa9 (ac3 (am3 rfl (I3.toC (aT6 rfl T.zip (aa0 (dv 3) (aa0 (E3.toD (aw3 (dv 3) (aC6 aa4) aC5)) aa3) Fr.aa1))) (Fr.ah9 (xs:=["here","there"]) (fr:=[("level",0)]) (sc:=aa2 aj4) (N:=["level","one","other","walk"]) rfl rfl (by decide +kernel)) (fun _ _ _ _=>(ae8 (n:=2) rfl (ab6 (ab3 0 (show Nodup [("here" : Str),("there" : Str),("level" : Str)] by decide +kernel) rfl (Or.inl rfl)) (ab6 (ab3 1 (show Nodup [("here" : Str),("there" : Str),("level" : Str)] by decide +kernel) rfl (Or.inl rfl)) ad9)))) (fun _ _ _ _=>aq5 rfl (aj0 MLevel_number_of Fr.aF3 hr (dv 2) (aa0 (ad3 (dv 1) aa4) (aa0 (d_op Fr.ac1 ac9 (E3.toD (ab0 Ocrossed Fr.aF3 hr rfl (aa0 (dv 1) (aa0 (dv 0) aa3 Fr.aa1) Fr.aa1))) (ad3 (dv 0) aa4)) aa3 Fr.ab7)))))))),fun δ Q Z h=>?_⟩
 obtain⟨x,y,z,rfl,n,p,p',hx,e1,e2,h1,h2,q⟩:=aC9 h
 subst e1 e2
 obtain⟨kvs,rfl,hk,n1,n2⟩:=id hx
 walk_at "w"
 refine⟨p,p',rfl,rfl,h1,h2,fun ob=>?_⟩
 have aw:=aI8 p p' h1.nn h2.nn
 have fw:∀ x∈wayP p p',Fit x.1∧Fit x.2:=fun x hx=>by
  unfold wayP at hx
  rcases mem_append.mp hx with z | z
  ·exact aA6 h1 x (List.mem_reverse.mp z)
  ·exact aA6 h2 x (List.mem_of_mem_tail z)
 have lw:(wayP p p').length≤684:=by
  have l1:=aj3 h1
  have l2:=aj3 h2
  unfold wayP
  rw [length_append,length_reverse,length_tail]
  omega
 walk_at "w"
 rw [show (some (1:Int))=some (((1:Nat):Int)) from rfl,ar1,drop_one]
 have et:(plZ (wayP p p')).tail=plZ (wayP p p').tail:=by unfold plZ;rw [List.map_tail]
 rw [et]
 refine⟨by rw [am9];unfold plZ;rw [length_map];omega,ai2 (l:=[.d (.obj C (levF n kvs))]) rfl (rsF n) (fun z hz=>?_) ?_⟩
 ·obtain⟨x,y,rfl,hxy,hx',hy'⟩:=bh1 aw z hz
  obtain⟨f1,f2⟩:=fw x hx'
  obtain⟨f3,f4⟩:=fw y hy'
  have fc:Fit (crs y x):=by
   rcases aj8 hxy with e | e <;> rw [e] <;> exact fitI (by decide)
  obtain⟨s1,s2⟩:=ah3 n1 n2 hxy
  refine⟨plD x,plD y,rfl,fun P pp=>?_⟩
  walk_at "w"
  refine⟨⟨rfl,rfl⟩,?_⟩
  walk_at "w"
  refine⟨_,rfl,?_⟩
  walk_at "w"
  refine⟨y,x,rfl,rfl,⟨f3,f4⟩,⟨f1,f2⟩,?_⟩
  walk_at "w"
  refine⟨_,rfl,⟨fc,f2⟩,n,hx,fun i hi=>?_,fun hi=>?_⟩
  ·have hi:ac0 n (syms n) (rsT n y.2 (crs y x*x.2))=some i:=hi
   rw [s1] at hi
   cases hi
   exact pp
  ·have hi:ac0 n (syms n) (rsT n y.2 (crs y x*x.2))=none:=hi
   rw [s1] at hi
   cases hi
 ·rw [bt5]
  exact q _
end
end
noncomputable section
def roomF (n:Nat)(lv:D):List (Str×D):=[("own_level",lv),("kept_numbers",lstN (kpT n)),("settled_numbers",lstN (odT n)),("symbol_rows",.lst ((ac5 n).map lstZ))]
def ax5 (C CR:Addr)(n:Nat)(x:D):Prop:=∃ lv,ai7 C n lv∧x=.obj CR (roomF n lv)
structure RoomC (K:PySem.W.Frag) (C:Addr):Prop where
 cl:Cls K C
 n_own_level:NoAttr K C "own_level"
 n_kept_numbers:NoAttr K C "kept_numbers"
 n_settled_numbers:NoAttr K C "settled_numbers"
 n_symbol_rows:NoAttr K C "symbol_rows"
def kN (n:Nat):Nat:=(kpT n).length
def rowV (n:Nat)(g:Nat→Int):List Int:=(List.range (kN n)).map g
theorem bA8 {n:Nat}(n1:1≤n)(n2:n≤48){s:Nat}(hs:s < (hvT n).length):atR (ac5 n) s=rowV n (rE n s):=by
 have h:=(al5 n1 n2).rlen s hs
 refine ext_getElem? fun i=>?_
 unfold rowV
 rw [getElem?_map]
 by_cases c:i < kN n
 ·rw [getElem?_range c,getElem?_eq_getElem (by rw [h];exact c)]
  show _=some (rE n s i)
  unfold rE
  rw [getD_eq_getElem?_getD,getElem?_eq_getElem (by rw [h];exact c)]
  rfl
 ·rw [getElem?_eq_none (by rw [h];show kN n≤i;omega),getElem?_eq_none (by rw [length_range];omega)]
  rfl
def dotc:List (List Int)→List Int→Nat→Int
 | r::R,t::ts,j=>t*r.getD j 0+dotc R ts j
 | _,_,_=>0
def sumF:List (List Int)→List Int→List Int→List Int
 | r::R,t::ts,acc=>sumF R ts (if t=0 then acc else addZ acc r t)
 | _,_,acc=>acc
theorem bh2 {m:Int}:∀ {row other:List Int} (j:Nat),row.length=other.length→(addZ row other m).getD j 0=row.getD j 0+m*other.getD j 0
 | [],[],j,_=>by show (0:Int)=0+m*0;omega
 | a::r,b::o,0,_=>rfl
 | a::r,b::o,j+1,h=>bh2 (row:=r) (other:=o) j (by simpa using h)
 | [],_::_,_,h=>by cases h
 | _::_,[],_,h=>by cases h
theorem aZ7 {m:Int}{row other:List Int}(h:row.length=other.length):(addZ row other m).length=row.length:=by
 unfold addZ
 rw [List.length_zipWith,h,Nat.min_self]
theorem bh3 {k:Nat}:∀ (R:List (List Int)) (ts acc:List Int),(∀ r∈R,r.length=k)→acc.length=k→(sumF R ts acc).length=k∧∀ j,(sumF R ts acc).getD j 0=acc.getD j 0+dotc R ts j
 | [],ts,acc,_,h=>⟨by cases ts <;> exact h,fun j=>by cases ts <;> (show _=_+(0:Int);rw [add_zero];rfl)⟩
 | r::R,[],acc,_,h=>⟨h,fun j=>by show _=_+(0:Int);rw [add_zero];rfl⟩
 | r::R,t::ts,acc,hR,h=>by
  have hr:=hR r mem_cons_self
  have l2:(if t=0 then acc else addZ acc r t).length=k:=by
   split
   ·exact h
   ·rw [aZ7 (by omega)];exact h
  obtain⟨a,b⟩:=bh3 R ts (if t=0 then acc else addZ acc r t) (fun x hx=>hR x (mem_cons_of_mem _ hx)) l2
  refine⟨a,fun j=>?_⟩
  show (sumF R ts (if t=0 then acc else addZ acc r t)).getD j 0=acc.getD j 0+(t*r.getD j 0+dotc R ts j)
  rw [b j]
  by_cases c:t=0
  ·rw [if_pos c,c]
   omega
  ·rw [if_neg c,bh2 j (by omega)]
   omega
theorem aZ8:∀ (R:List (List Int)) (ts:List Int) (s:Nat) (u v:Int) (j:Nat),ts[s]?=some u→R.length=ts.length→dotc R (ts.set s (u+v)) j=dotc R ts j+v*(atR R s).getD j 0
 | [],[],_,_,_,_,h,_=>by simp at h
 | r::R,t::ts,0,u,v,j,h,_=>by
  cases h
  show (t+v)*r.getD j 0+dotc R ts j=t*r.getD j 0+dotc R ts j+v*r.getD j 0
  grind
 | r::R,t::ts,s+1,u,v,j,h,hl=>by
  have ih:=aZ8 R ts s u v j (by simpa using h) (by simpa using hl)
  show t*r.getD j 0+dotc R (ts.set s (u+v)) j=t*r.getD j 0+dotc R ts j+v*(atR R s).getD j 0
  rw [ih]
  omega
 | [],_::_,_,_,_,_,_,hl=>by cases hl
 | _::_,[],_,_,_,_,_,hl=>by cases hl
theorem aT1 (j:Nat):∀ (R:List (List Int)) (m:Nat),dotc R (replicate m 0) j=0
 | [],_=>by unfold dotc;rfl
 | r::R,0=>rfl
 | r::R,m+1=>by
  rw [replicate_succ]
  show 0*r.getD j 0+dotc R (replicate m 0) j=0
  rw [aT1 j R m]
  omega
theorem bA9 {n:Nat}(n1:1≤n)(n2:n≤48)(ts:List Int):sumF (ac5 n) ts (replicate (kN n) 0)=rowV n (dotc (ac5 n) ts):=by
 have R:=al5 n1 n2
 have hR:∀ r∈ac5 n,r.length=kN n:=fun r hr=>by
  obtain⟨i,hi,e⟩:=List.mem_iff_getElem.mp hr
  have:=R.rlen i (by rw [← R.len];exact hi)
  unfold atR at this
  rw [getD_eq_getElem?_getD,getElem?_eq_getElem hi] at this
  rw [← e]
  exact this
 obtain⟨a,b⟩:=bh3 (ac5 n) ts (replicate (kN n) 0) hR length_replicate
 refine ext_getElem? fun i=>?_
 unfold rowV
 rw [getElem?_map]
 by_cases c:i < kN n
 ·rw [getElem?_range c,getElem?_eq_getElem (by rw [a];exact c)]
  have h:=b i
  rw [getD_eq_getElem?_getD,getElem?_eq_getElem (by rw [a];exact c),getD_eq_getElem?_getD,getElem?_replicate,if_pos c] at h
  have h:(sumF (ac5 n) ts (replicate (kN n) 0))[i]'(by rw [a];exact c)=0+dotc (ac5 n) ts i:=h
  rw [h,zero_add]
  rfl
 ·rw [getElem?_eq_none (by rw [a];omega),getElem?_eq_none (by rw [length_range];omega)]
  rfl
theorem bM6 {xs ys:List D}{i:Nat}{z:D}(h:(zipD xs ys)[i]?=some z):∃ x y,xs[i]?=some x∧ys[i]?=some y∧z=.tup [x,y]:=by
 unfold zipD at h
 rw [getElem?_map] at h
 obtain⟨q,hq,rfl⟩:=Option.map_eq_some_iff.mp h
 have:=List.getElem?_zip_eq_some.mp hq
 exact⟨q.1,q.2,this.1,this.2,rfl⟩
section
variable {P:Program}{w:World}{K:PySem.W.Frag}{mg:Str→Option Value}{base:Heap}{f:Addr}{fd:FuncData}
abbrev ax6:Stmt:=inClass (top 39) 0
def aP9 (C CR:Addr):Sp3:=fun δ Q _=>match δ with
 | [.bor (.ins C' []),.d x]=>C'=CR∧∃ n,ai7 C n x∧Q (.d .non) (some (.ins CR (roomF n x)))
 | _=>False
theorem scRInit:FnScope ["self","level"] ["self","level"] (aa2 ax6):=⟨rfl,rfl,rfl,by decide +kernel,rfl,by decide +kernel,by decide +kernel⟩
theorem bB0 (F:Fun K "__init__" "Room.__init__" ax6 f fd)(T:Bt mg){C CR:Addr}(TRoom:RoomC K CR)(Ochosen:Own3 P w K mg base 5 "chosen" ["level"] (aJ4 C))(Osettled_order:Own3 P w K mg base 5 "settled_order" ["level","kept"] (ap3 C))(Orows_by:Own3 P w K mg base 5 "rows_by" ["level","kept","order"] (aJ7 C)) :
  FnOk P w K mg base (CX1 P w) 6 f fd ["self","level"] (lsp K (aP9 C CR)):=by
 refine ok3 F scRInit (fun δ Q Z h=>match δ,h with | [.bor (.ins C' []),.d x],_=>rfl) fun cdv A outer s H E hr=>?_
 have nd:=scRInit.nd
 refine⟨_,(aa5 (aL0 0 TRoom.cl TRoom.n_own_level (dv 1)) (aa5 (aL0 0 TRoom.cl TRoom.n_kept_numbers (E3.toD (ab0 Ochosen Fr.aa6 hr rfl (aa0 (dv 1) aa3 Fr.aa1)))) (aa5 (aL0 0 TRoom.cl TRoom.n_settled_numbers (E3.toD (ab0 Osettled_order Fr.aa6 hr rfl (aa0 (dv 1) (aa0 (ae9 0 TRoom.cl TRoom.n_kept_numbers) aa3) Fr.aa1)))) (aa9 (aL0 0 TRoom.cl TRoom.n_symbol_rows (E3.toD (ab0 Orows_by Fr.aa6 hr rfl (aa0 (dv 1) (aa0 (ae9 0 TRoom.cl TRoom.n_kept_numbers) (aa0 (ae9 0 TRoom.cl TRoom.n_settled_numbers) aa3)) Fr.aa1)))))))),fun δ Q Z h=>?_⟩
 match δ,h with
 | [.bor (.ins C' []),.d x],⟨eC,n,hx,q⟩ =>
  subst eC
  walk_at "w"
  refine⟨rfl,(show (0:Nat) < 100 by decide),?_⟩
  walk_at "w"
  refine⟨n,hx,fun ob=>?_⟩
  walk_at "w"
  refine⟨rfl,(show (1:Nat) < 100 by decide),?_⟩
  walk_at "w"
  refine⟨rfl,_,rfl,n,hx,rfl,fun ob=>?_⟩
  walk_at "w"
  refine⟨rfl,(show (2:Nat) < 100 by decide),?_⟩
  walk_at "w"
  refine⟨rfl,_,rfl,?_⟩
  walk_at "w"
  refine⟨rfl,_,rfl,n,hx,rfl,rfl,fun ob=>?_⟩
  walk_at "w"
  refine⟨rfl,(show (3:Nat) < 100 by decide),?_⟩
  exact q
abbrev ax7:Stmt:=inClass (top 39) 2
def aQ0 (C CR:Addr):Sp3:=fun δ Q _=>match δ with
 | [.d x]=>∃ n,ax5 C CR n x∧∀ ob,Q (.own (.lst (aa8 (kpT n)))) ob
 | _=>False
theorem scRKept:FnScope ["self"] ["self"] (aa2 ax7):=⟨rfl,rfl,rfl,by decide +kernel,rfl,by decide +kernel,by decide +kernel⟩
theorem bB1 (F:Fun K "kept" "Room.kept" ax7 f fd)(T:Bt mg){C CR:Addr}(TRoom:RoomC K CR):FnOk P w K mg base (CX1 P w) 1 f fd ["self"] (lsp K (aQ0 C CR)):=by
 refine ok3 F scRKept (fun δ Q Z h=>ln_d h) fun cdv A outer s H E hr=>?_
 have nd:=scRKept.nd
 refine⟨_,(aa9 (ac3 (aC4 at1 aV9 rfl T.list boot_list (aa0 (ae9 0 TRoom.cl TRoom.n_kept_numbers) aa3)))),fun δ Q Z h=>?_⟩
 obtain⟨x,rfl,n,⟨lv,hl,e⟩,q⟩:=iv_d h
 subst e
 walk_at "w"
 refine⟨rfl,_,rfl,?_⟩
 walk_at "w"
 exact q _
abbrev ap5:Stmt:=inClass (top 39) 4
def aE4 (C CR gS:Addr):Sp3:=fun δ Q Z=>match δ with
 | [.d x,.d (.int u),.d (.int v)]=>∃ n,ax5 C CR n x∧(∀ i,ac0 n (syms n) (rsT n u v)=some i→i < (hvT n).length→∀ ob,Q (.own (.lst ((rowV n (rE n i)).map D.int))) ob)∧(ac0 n (syms n) (rsT n u v)=none→∀ ob,Z gS ob)
 | _=>False
theorem scRSymRow:FnScope ["self","u","v"] ["self","u","v"] (aa2 ap5):=⟨rfl,rfl,rfl,by decide +kernel,rfl,by decide +kernel,by decide +kernel⟩
theorem bk4 (F:Fun K "symbol_row" "Room.symbol_row" ap5 f fd)(T:Bt mg){C CR gS:Addr}(TRoom:RoomC K CR)(MLevel_number_of:MtOk P w K mg base 2 C "number_of" ["self","u","v"] (ah1 C gS)):FnOk P w K mg base (CX1 P w) 3 f fd ["self","u","v"] (lsp K (aE4 C CR gS)):=by
 refine ok3 F scRSymRow (fun δ Q Z h=>aW7 h) fun cdv A outer s H E hr=>?_
 have nd:=scRSymRow.nd
 refine⟨_,(aa9 (ac3 (aC4 at1 aV9 rfl T.list boot_list (aa0 (aK8 (ae9 0 TRoom.cl TRoom.n_symbol_rows) (E3.toD (aj0 MLevel_number_of Fr.aa6 hr (ae9 0 TRoom.cl TRoom.n_own_level) (aa0 (dv 1) (aa0 (dv 2) aa3 Fr.aa1) Fr.aa1)))) aa3)))),fun δ Q Z h=>?_⟩
 obtain⟨x,u,v,rfl,n,⟨lv,hl,e⟩,q,z⟩:=aL6 h
 subst e
 obtain⟨kvs,rfl,hk,n1,n2⟩:=id hl
 walk_at "w"
 refine⟨rfl,_,rfl,?_⟩
 walk_at "w"
 refine⟨rfl,_,rfl,?_⟩
 walk_at "w"
 refine⟨⟨rfl,rfl⟩,n,hl,fun i hi=>?_,fun hi=>z hi _⟩
 obtain⟨s0,hs0,_⟩:=aD6 hi
 have il:i < (hvT n).length:=by rw [aw9 n1 n2];exact (List.getElem?_eq_some_iff.mp hs0).1
 have R:=al5 n1 n2
 have q:=q i hi il
 rw [← bA8 n1 n2 il] at q
 have e:(ac5 n)[i]?=some (atR (ac5 n) i):=by
  unfold atR
  rw [getD_eq_getElem?_getD,getElem?_eq_getElem (by rw [R.len];exact il)]
  rfl
 walk_at "w"
 refine⟨lstZ (atR (ac5 n) i),ag5 (by rw [getElem?_map,e];rfl),?_⟩
 walk_at "w"
 exact q _
abbrev am0:Stmt:=inClass (top 39) 8
def aA9 (C CR:Addr):Sp3:=fun δ Q _=>match δ with
 | [.d x]=>∃ n,ax5 C CR n x∧∀ ob,Q (.own (.lst ((replicate (hvT n).length (0:Int)).map D.int))) ob
 | _=>False
theorem scRNoTimes:FnScope ["self"] ["self"] (aa2 am0):=⟨rfl,rfl,rfl,by decide +kernel,rfl,by decide +kernel,by decide +kernel⟩
theorem bb8 (F:Fun K "no_times" "Room.no_times" am0 f fd)(T:Bt mg){C CR:Addr}(TRoom:RoomC K CR):FnOk P w K mg base (CX1 P w) 1 f fd ["self"] (lsp K (aA9 C CR)):=by
 refine ok3 F scRNoTimes (fun δ Q Z h=>ln_d h) fun cdv A outer s H E hr=>?_
 have nd:=scRNoTimes.nd
 refine⟨_,(aa9 (ac3 (aq3 at3 az0 (E3.toD (ae4 (aa0 aa4 aa3 Fr.aa7))) (am7 ai8 aK9 rfl T.len PySem.boot_len (aa0 (ae9 0 TRoom.cl TRoom.n_symbol_rows) aa3))))),fun δ Q Z h=>?_⟩
 obtain⟨x,rfl,n,⟨lv,hl,e⟩,q⟩:=iv_d h
 subst e
 obtain⟨kvs,rfl,hk,n1,n2⟩:=id hl
 have R:=al5 n1 n2
 have lh:=(as0 n1 n2).syms
 have ln:((ac5 n).map lstZ).length=(hvT n).length:=by rw [length_map,R.len]
 walk_at "w"
 refine⟨rfl,_,rfl,?_⟩
 walk_at "w"
 refine⟨⟨by omega,by omega,by decide⟩,?_⟩
 rw [aj2,show (((((ac5 n).map lstZ).length:Nat):Int)).toNat=(hvT n).length by rw [ln];omega]
 rw [map_replicate] at q
 exact q _
abbrev ap6:Stmt:=inClass (top 39) 9
def aE5 (C CR:Addr):Sp3:=fun δ Q _=>match δ with
 | [.d x,.d y]=>∃ (n:Nat) (ts:List Int),ax5 C CR n x∧y=lstZ ts∧ts.length=(hvT n).length∧(∀ t∈ts,Fit t)∧∀ ob,Q (.own (.lst ((rowV n (dotc (ac5 n) ts)).map D.int))) ob
 | _=>False
theorem scRSummed:FnScope ["self","times","row","many","part"] ["self","times"] (aa2 ap6):=⟨rfl,rfl,rfl,by decide +kernel,rfl,by decide +kernel,by decide +kernel⟩
theorem bk5 (F:Fun K "summed" "Room.summed" ap6 f fd)(T:Bt mg){C CR:Addr}(TRoom:RoomC K CR)(Oadded:Own3 P w K mg base 1 "added" ["row","many","other"] aG9):FnOk P w K mg base (CX1 P w) 2 f fd ["self","times"] (lsp K (aE5 C CR)):=by
 refine ok3 F scRSummed (fun δ Q Z h=>aF7 h) fun cdv A outer s H E hr=>?_
 have nd:=scRSummed.nd
 refine⟨_,(aa5 (ab8 2 (by exact nd) rfl (Or.inl rfl) (aq3 at3 az0 (E3.toD (ae4 (aa0 aa4 aa3 Fr.aa7))) (am7 ai8 aK9 rfl T.len PySem.boot_len (aa0 (ae9 0 TRoom.cl TRoom.n_kept_numbers) aa3)))) (aa5 (af5 PassesOwn.leaving rfl (aT6 rfl T.zip (aa0 (dv 1) (aa0 (ae9 0 TRoom.cl TRoom.n_symbol_rows) aa3) Fr.aa1)) (ae8 (n:=2) rfl (ab6 (ab3 3 (by exact nd) rfl (Or.inl rfl)) (ab6 (ab3 4 (by exact nd) rfl (Or.inl rfl)) ad9))) (aa9 (s_if (ae7 ay2 r_ne (dv 3) aa4 (ad5 _)) (aa9 (ab8 2 (by exact nd) rfl (Or.inl rfl) (ab0 Oadded Fr.aa6 hr rfl (aa0 (dv 2) (aa0 (dv 3) (aa0 (dv 4) aa3 Fr.aa1) Fr.aa1) Fr.aa1)))) ah7))) (aa9 (ac3 (af9 2))))),fun δ Q Z h=>?_⟩
 obtain⟨x,y,rfl,n,ts,⟨lv,hl,e⟩,e2,lts,fts,q⟩:=az6 h
 subst e e2
 obtain⟨kvs,rfl,hk,n1,n2⟩:=id hl
 have R:=al5 n1 n2
 have Kp:=as0 n1 n2
 have lh:=Kp.syms
 have lk:=Kp.few
 have lI:∀ l:List Nat,(aa8 l).length=l.length:=fun l=>length_map _
 walk_at "w"
 refine⟨rfl,_,rfl,?_⟩
 walk_at "w"
 refine⟨⟨by omega,by rw [lI];omega,by decide⟩,?_⟩
 rw [aj2,show (((aa8 (kpT n)).length:Nat):Int).toNat=(kpT n).length by rw [lI];omega]
 walk_at "w"
 refine⟨rfl,_,rfl,?_⟩
 have e0:replicate (kpT n).length (D.int 0)=(replicate (kN n) (0:Int)).map D.int:=by rw [map_replicate];rfl
 rw [e0]
 have hR:∀ r∈ac5 n,r.length=kN n∧∀ e∈r,Fit e:=fun r hr=>by
  obtain⟨i,hi,e⟩:=List.mem_iff_getElem.mp hr
  have il:i < (hvT n).length:=by rw [← R.len];exact hi
  have e2:atR (ac5 n) i=r:=by
   unfold atR
   rw [getD_eq_getElem?_getD,getElem?_eq_getElem hi]
   exact e
  have h1:=R.rlen i il
  have h2:=R.small i il
  rw [e2] at h1 h2
  exact⟨h1,fun x hx=>fitI (by have:=h2 x hx;omega)⟩
 refine ae0 (fun i δ=>∃ (acc:List Int) (s3 s4:Sl),δ=[.d (.obj CR (roomF n (.obj C (levF n kvs)))),.d (lstZ ts),.own (.lst (acc.map D.int)),s3,s4]∧acc.length=kN n∧sumF ((ac5 n).drop i) (ts.drop i) acc=sumF (ac5 n) ts (replicate (kN n) 0)) ⟨_,_,_,rfl,length_replicate,rfl⟩ ?_ ?_
 ·rintro i z δ N hz ⟨acc,s3,s4,rfl,la,ea⟩ hN
  obtain⟨x,y,hx,hy,rfl⟩:=bM6 hz
  rw [getElem?_map] at hx hy
  obtain⟨t,ht,rfl⟩:=Option.map_eq_some_iff.mp hx
  obtain⟨r,hr',rfl⟩:=Option.map_eq_some_iff.mp hy
  have i1:=(List.getElem?_eq_some_iff.mp ht).1
  have i2:=(List.getElem?_eq_some_iff.mp hr').1
  have e1:(ac5 n).drop i=r::(ac5 n).drop (i+1):=by
   rw [drop_eq_getElem_cons i2,(List.getElem?_eq_some_iff.mp hr').2]
  have e2:ts.drop i=t::ts.drop (i+1):=by
   rw [drop_eq_getElem_cons i1,(List.getElem?_eq_some_iff.mp ht).2]
  rw [e1,e2] at ea
  have ea:sumF ((ac5 n).drop (i+1)) (ts.drop (i+1)) (if t=0 then acc else addZ acc r t)=sumF (ac5 n) ts (replicate (kN n) 0):=ea
  obtain⟨lr,fr⟩:=hR r (mem_of_getElem? hr')
  walk_at "w"
  refine brn (fun c=>?_) (fun c=>?_)
  ·rw [if_neg c] at ea
   walk_at "w"
   refine⟨acc,r,rfl,rfl,⟨fts t (mem_of_getElem? ht),fr⟩,by unfold kN at la;omega,fun ob=>?_⟩
   exact hN _ ⟨addZ acc r t,_,_,rfl,by rw [aZ7 (by omega)];exact la,ea⟩
  ·rw [if_pos c] at ea
   exact hN _ ⟨acc,_,_,rfl,la,ea⟩
 ·rintro δ ⟨acc,s3,s4,rfl,la,ea⟩
  have ll:(zipD (ts.map D.int) ((ac5 n).map lstZ)).length=ts.length:=by
   rw [am9,length_map,length_map,R.len,lts,Nat.min_self]
  rw [ll,drop_length] at ea
  have ea:acc=sumF (ac5 n) ts (replicate (kN n) 0):=by
   rw [← ea]
   cases (ac5 n).drop ts.length <;> rfl
  rw [bA9 n1 n2] at ea
  rw [← ea] at q
  exact q _
abbrev am1:Stmt:=inClass (top 39) 7
def aB0 (C CR:Addr):Sp3:=fun δ Q _=>match δ with
 | [.d x,.d y,.d z]=>∃ (n:Nat) (p p':Int×Int),ax5 C CR n x∧y=plD p∧z=plD p'∧Plc p∧Plc p'∧∀ ob,Q (.own (.lst ((rowV n (ad4 n (wayP p p'))).map D.int))) ob
 | _=>False
theorem scRRoadRow:FnScope ["self","one","other","times","number"] ["self","one","other"] (aa2 am1):=⟨rfl,rfl,rfl,by decide +kernel,rfl,by decide +kernel,by decide +kernel⟩
theorem bb9 (F:Fun K "road_row" "Room.road_row" am1 f fd)(T:Bt mg){C CR:Addr}(TRoom:RoomC K CR)(MRoom_no_times:MtOk P w K mg base 4 CR "no_times" ["self"] (aA9 C CR))(MRoom_summed:MtOk P w K mg base 4 CR "summed" ["self","times"] (aE5 C CR))(Oroad_symbols:Own3 P w K mg base 4 "road_symbols" ["level","one","other"] (aA8 C)) :
  FnOk P w K mg base (CX1 P w) 5 f fd ["self","one","other"] (lsp K (aB0 C CR)):=by
 refine ok3 F scRRoadRow (fun δ Q Z h=>aL5 h) fun cdv A outer s H E hr=>?_
 have nd:=scRRoadRow.nd
 refine⟨_,(aa5 (ab8 3 (by exact nd) rfl (Or.inl rfl) (aw5 MRoom_no_times Fr.aa6 hr (dv 0))) (aa5 (af5 PassesOwn.leaving rfl (af4 (E3.toD (ab0 Oroad_symbols Fr.aa6 hr rfl (aa0 (ae9 0 TRoom.cl TRoom.n_own_level) (aa0 (dv 1) (aa0 (dv 2) aa3 Fr.aa1) Fr.aa1))))) (ab3 4 (by exact nd) rfl (Or.inl rfl)) (aa9 (br9 3 bP2 (dv 4) aa4))) (aa9 (ac3 (aj0 MRoom_summed Fr.aa6 hr (dv 0) (aa0 (dv 3) aa3 Fr.aa1)))))),fun δ Q Z h=>?_⟩
 obtain⟨x,y,z,rfl,n,p,p',hR,e1,e2,h1,h2,q⟩:=aC9 h
 subst e1 e2
 obtain⟨lv,hl,rfl⟩:=id hR
 obtain⟨kvs,rfl,hk,n1,n2⟩:=id hl
 walk_at "w"
 refine⟨⟨rfl,rfl⟩,n,hR,fun ob=>?_⟩
 walk_at "w"
 refine⟨rfl,_,rfl,?_⟩
 walk_at "w"
 refine⟨n,p,p',hl,rfl,rfl,h1,h2,fun ob=>?_⟩
 have aw:=aI8 p p' h1.nn h2.nn
 have rl:=br1 n1 n2 aw
 have R:=al5 n1 n2
 have lw:(rdN n (wayP p p')).length≤684:=by
  have l1:=aj3 h1
  have l2:=aj3 h2
  rw [aO6]
  unfold wayP
  rw [length_append,length_reverse,length_tail]
  omega
 refine ae0 (fun i δ=>∃ (ts:List Int) (s4:Sl),δ=[.d (.obj CR (roomF n (.obj C (levF n kvs)))),.d (plD p),.d (plD p'),.own (.lst (ts.map D.int)),s4]∧ts.length=(hvT n).length∧(∀ t∈ts,t.natAbs≤i)∧∀ j,dotc (ac5 n) ts j=sumI ((rdN n (wayP p p')).take i) fun s=>rE n s j) ⟨_,_,rfl,length_replicate,(fun t ht=>by rw [(mem_replicate.mp ht).2];decide),fun j=>by rw [aT1,take_zero];rfl⟩ ?_ ?_
 ·rintro i z δ N hz ⟨ts,s4,rfl,lt,bt,et⟩ hN
  unfold aa8 at hz
  rw [getElem?_map] at hz
  obtain⟨x,hx,rfl⟩:=Option.map_eq_some_iff.mp hz
  have xl:=rl x (mem_of_getElem? hx)
  have xt:x < ts.length:=by omega
  have ex:ts[x]?=some ts[x]:=getElem?_eq_getElem xt
  walk_at "w"
  refine⟨by omega,x,ts[x],?_,by rw [getElem?_map,ex];rfl,?_⟩
  ·unfold ixN
   rw [length_map,if_pos (by omega),if_pos (by omega)]
   simp
  walk_at "w"
  refine⟨rfl,hN _ ⟨ts.set x (ts[x]+1),.d (natD x),?_,by rw [length_set];exact lt,fun t ht=>?_,fun j=>?_⟩⟩
  ·rw [map_set]
   rfl
  ·rcases List.mem_or_eq_of_mem_set ht with z | z
   ·have:=bt t z
    omega
   ·rw [z]
    have:=bt _ (getElem_mem xt)
    omega
  ·rw [aZ8 _ _ _ _ _ _ ex (by rw [R.len,lt]),et j,take_snoc hx]
   unfold sumI
   rw [map_append,sum_append]
   show _=_+(rE n x j+0)
   unfold rE
   omega
 ·rintro δ ⟨ts,s4,rfl,lt,bt,et⟩
  have ll:(aa8 (rdN n (wayP p p'))).length=(rdN n (wayP p p')).length:=length_map _
  rw [ll,take_length] at et
  rw [ll] at bt
  walk_at "w"
  refine⟨⟨rfl,rfl⟩,n,ts,hR,rfl,lt,(fun t ht=>fitI (by have:=bt t ht;omega)),fun ob=>?_⟩
  have e:dotc (ac5 n) ts=ad4 n (wayP p p'):=funext et
  rw [e]
  exact q _
end
end
noncomputable section
theorem aN2 {B:Nat}{x:Int}(h:x.natAbs < 2 ^ B)(hB:B≤65536):Fit x:=lt_of_lt_of_le h (pow_le_pow_right (by decide) hB)
section
variable {P:Program}{w:World}{K:PySem.W.Frag}{mg:Str→Option Value}{base:Heap}{f:Addr}{fd:FuncData}
abbrev aH0:Stmt:=top 41
def aZ9:Sp3:=fun δ Q _=>match δ with
 | [.d (.scr ns),.d (.int k)]=>(0≤k∧k < 1000)∧∀ x:Int,Q (.d (.int x)) none
 | _=>False
theorem scCell:FnScope ["_law_script","_law_k"] ["_law_script","_law_k"] (aa2 aH0):=⟨rfl,rfl,rfl,by decide +kernel,rfl,by decide +kernel,by decide +kernel⟩
theorem bM7 (F:Fun K "_law_cell_at" "_law_cell_at" aH0 f fd)(T:Bt mg):FnOk P w K mg base (CX1 P w) 1 f fd ["_law_script","_law_k"] (lsp K aZ9):=by
 refine ok3 F scCell (fun δ Q Z h=>ca6 h) fun cdv A outer s H E hr=>?_
 have nd:=scCell.nd
 refine⟨_,(aa5 (s_if (ae7 bh6 r_lt (dv 1) (am7 ai8 aK9 rfl T.len PySem.boot_len (aa0 (dv 0) aa3 Fr.aa1)) (ad5 _)) (aa9 (ac3 (D3.toE (d_ix aN7 cb2 (dv 0) (dv 1) (fun _ _=>rfl))))) ah7) (aa9 (ac3 (D3.toE (d_op ac7 ad2 (d_op Fr.ac1 ac9 aa4 (dv 1)) aa4))))),fun δ Q Z h=>?_⟩
 obtain⟨ns,k,rfl,⟨k0,k1⟩,q⟩:=bD6 h
 walk_at "w"
 refine brd (fun c=>?_) (fun c=>?_)
 ·have hk:k.toNat < ns.length:=by omega
  walk_at "w"
  refine⟨ns[k.toNat],?_,q _⟩
  have e:k=(k.toNat:Int):=by omega
  conv=>lhs;rw [e]
  exact ag5 (getElem?_eq_getElem hk)
 ·walk_at "w"
  exact⟨⟨fitI (by decide),fitI (by omega)⟩,q _⟩
abbrev ax8:Stmt:=top 42
def aQ1:Sp3:=fun δ Q _=>match δ with
 | [.d (.int c),.d (.int k)]=>(0≤k∧k < 1000)∧∀ x:Int,Q (.d (.int x)) none
 | _=>False
theorem fitB {x:Int}(h0:0≤x)(h1:x < 2037035976334486086268445688409378161051468393665936250636140449354381299763336706183397376):Fit x:=by
 refine aN2 (B:=300) ?_ (by decide)
 have:(2:Nat) ^ 300=2037035976334486086268445688409378161051468393665936250636140449354381299763336706183397376:=by decide
 omega
theorem scMixed:FnScope ["_law_cell","_law_k","_law_one"] ["_law_cell","_law_k"] (aa2 ax8):=⟨rfl,rfl,rfl,by decide +kernel,rfl,by decide +kernel,by decide +kernel⟩
theorem bB2 (F:Fun K "_law_mixed" "_law_mixed" ax8 f fd)(T:Bt mg):FnOk P w K mg base (CX1 P w) 1 f fd ["_law_cell","_law_k"] (lsp K aQ1):=by
 refine ok3 F scMixed (fun δ Q Z h=>av2 h) fun cdv A outer s H E hr=>?_
 have nd:=scMixed.nd
 refine⟨_,(aa5 (ab8 2 (by exact nd) rfl (Or.inl rfl) (D3.toE (d_op ac7 ad2 (d_op Fr.ac1 ac9 (d_op ac7 ad2 (d_op ac7 ad2 (d_op ae1 af3 (dv 0) (d_op aB2 aK7 aa4 aa4)) (d_op Fr.ac1 ac9 (dv 1) (dv 1))) aa4) aa4) (d_op Fr.ac1 ac9 (d_op ac7 ad2 (dv 1) aa4) aa4)))) (aa9 (ac3 (D3.toE (d_op Fr.ag3 ai9 (d_op Fr.ac1 ac9 (d_op Fr.ag3 ai9 (dv 2) aa4) aa4) aa4))))),fun δ Q Z h=>?_⟩
 obtain⟨c,k,rfl,⟨k0,k1⟩,q⟩:=ar7 h
 have P60:(10:Int) ^ (60:Int).toNat=1000000000000000000000000000000000000000000000000000000000000:=by decide
 have c0:=emod_nonneg c (show (1000000000000000000000000000000000000000000000000000000000000:Int)≠0 by decide)
 have c1:=emod_lt_of_pos c (show (0:Int) < 1000000000000000000000000000000000000000000000000000000000000 by decide)
 have kk0:0≤k*k:=Int.mul_nonneg k0 k0
 have kk1:k*k≤1000*1000:=Int.mul_le_mul (by omega) (by omega) k0 (by omega)
 walk_at "w"
 refine⟨⟨by decide,by decide,by decide⟩,?_⟩
 walk_at "w"
 rw [P60]
 refine⟨(by show (0:Int) < 1000000000000000000000000000000000000000000000000000000000000;decide),⟨fitI (by omega),fitI (by omega)⟩,?_⟩
 refine⟨⟨fitB (by omega) (by omega),fitI (by decide)⟩,?_⟩
 walk_at "w"
 refine⟨⟨fitI (by omega),fitI (by decide)⟩,?_⟩
 walk_at "w"
 refine⟨⟨by decide,by decide⟩,?_⟩
 walk_at "w"
 refine⟨⟨fitB (by omega) (by omega),fitI (by decide)⟩,?_⟩
 walk_at "w"
 exact⟨⟨by decide,by decide⟩,q _⟩
abbrev ap7:Stmt:=top 43
def am2:Sp3:=fun δ Q _=>match δ with
 | [.d (.int c),.d (.int m),.d (.int t)]=>(0≤m∧m≤500)∧(0 < t∧t < 2 ^ 250)∧∀ ns:List Int,(ns.length:Int)=m→(∀ x∈ns,0≤x∧x < t)→∀ ob,Q (.own (.lst (ns.map D.int))) ob
 | _=>False
theorem scNumbers:FnScope ["_law_cell","_law_many","_law_most","_law_made","_law_rest_here","_law_k","_law_number"] ["_law_cell","_law_many","_law_most"] (aa2 ap7):=⟨rfl,rfl,rfl,by decide +kernel,rfl,by decide +kernel,by decide +kernel⟩
theorem bk6 (F:Fun K "_law_numbers" "_law_numbers" ap7 f fd)(T:Bt mg)(O_law_mixed:Own3 P w K mg base 1 "_law_mixed" ["_law_cell","_law_k"] aQ1):FnOk P w K mg base (CX1 P w) 2 f fd ["_law_cell","_law_many","_law_most"] (lsp K am2):=by
 refine ok3 F scNumbers (fun δ Q Z h=>bT0 h) fun cdv A outer s H E hr=>?_
 have nd:=scNumbers.nd
 refine⟨_,(aa5 (ab8 3 (by exact nd) rfl (Or.inl rfl) (ae4 aa3)) (aa5 (ab8 4 (by exact nd) rfl (Or.inl rfl) (D3.toE (dv 0))) (aa5 (af5 PassesOwn.leaving rfl (am8 rfl T.range (aa0 (dv 1) aa3 Fr.aa1)) (ab3 5 (by exact nd) rfl (Or.inl rfl)) (aa5 (ab8 6 (by exact nd) rfl (Or.inl rfl) (D3.toE (d_op ae1 af3 (dv 4) (dv 2)))) (aa5 (s_if (ae7 bh6 r_lt (dv 0) (d_op aB2 aK7 aa4 aa4) (ad5 _)) (aa9 (ab8 6 (by exact nd) rfl (Or.inl rfl) (D3.toE (d_op ae1 af3 (E3.toD (ab0 O_law_mixed Fr.aa6 hr rfl (aa0 (dv 0) (aa0 (dv 5) aa3 Fr.aa1) Fr.aa1))) (dv 2))))) ah7) (aa5 (ab8 4 (by exact nd) rfl (Or.inl rfl) (D3.toE (d_op Fr.ag3 ai9 (dv 4) (dv 2)))) (aa9 (ag4 3 (dv 6))))))) (aa9 (ac3 (af9 3)))))),fun δ Q Z h=>?_⟩
 obtain⟨c,m,t,rfl,⟨m0,m1⟩,⟨t0,t1⟩,q⟩:=bp3 h
 walk_at "w"
 refine⟨⟨by omega,by omega⟩,?_⟩
 refine ae0 (fun i δ=>∃ (ns:List Int) (r:Int) (s5 s6:Sl),δ=[.d (.int c),.d (.int m),.d (.int t),.own (.lst (ns.map D.int)),.d (.int r),s5,s6]∧ns.length=i∧∀ x∈ns,0≤x∧x < t) ⟨[],_,_,_,rfl,rfl,fun x h=>nomatch h⟩ ?_ ?_
 ·rintro i z δ N hz ⟨ns,r,s5,s6,rfl,ln,bn⟩ hN
  obtain⟨k,rfl,k0,k1⟩:∃ k:Int,z=.int k∧0≤k∧k < 500:=by
   have:=mem_of_getElem? hz
   unfold rngD at this
   obtain⟨i0,hi0,rfl⟩:=mem_map.mp this
   have:=mem_range.mp hi0
   exact⟨_,rfl,by omega,by omega⟩
  have fin:∀ x:Int,∀ s6,(0≤x∧x < t)→N [.d (.int c),.d (.int m),.d (.int t),.own (.lst (ns.map D.int++[.int x])),.d (.int (r / t)),.d (.int k),s6]:=fun x s6 hx=>hN _ ⟨ns++[x],r / t,.d (.int k),s6,by rw [map_append];rfl,by rw [length_append,ln];rfl,fun y hy=>by
   rcases mem_append.mp hy with z | z
   ·exact bn y z
   ·cases mem_singleton.mp z
    exact hx⟩
  have ll:(ns.map D.int).length≤1000000:=by
   rw [length_map,ln]
   have:=(List.getElem?_eq_some_iff.mp hz).1
   rw [ah8] at this
   omega
  walk_at "w"
  refine⟨t0,?_⟩
  walk_at "w"
  refine⟨⟨by decide,by decide,by decide⟩,?_⟩
  walk_at "w"
  refine brd (fun _=>?_) (fun _=>?_)
  ·walk_at "w"
   refine⟨⟨k0,by omega⟩,fun x=>?_⟩
   walk_at "w"
   refine⟨t0,?_⟩
   walk_at "w"
   refine⟨⟨t0,t1⟩,ll,?_⟩
   exact fin _ _ ⟨emod_nonneg _ (by omega),emod_lt_of_pos _ t0⟩
  ·walk_at "w"
   refine⟨⟨t0,t1⟩,ll,?_⟩
   exact fin _ _ ⟨emod_nonneg _ (by omega),emod_lt_of_pos _ t0⟩
 ·rintro δ ⟨ns,r,s5,s6,rfl,ln,bn⟩
  rw [ah8] at ln
  exact q ns (by omega) bn _
abbrev aH1:Stmt:=top 44
def aE6:Sp3:=fun δ Q _=>match δ with
 | [.d (.int c),.d (.int b)]=>(0 < b∧b < 2 ^ 250)∧∀ x:Int,Q (.d (.int x)) none
 | _=>False
theorem scRest:FnScope ["_law_cell","_law_by"] ["_law_cell","_law_by"] (aa2 aH1):=⟨rfl,rfl,rfl,by decide +kernel,rfl,by decide +kernel,by decide +kernel⟩
theorem bM8 (F:Fun K "_law_rest" "_law_rest" aH1 f fd)(T:Bt mg):FnOk P w K mg base (CX1 P w) 1 f fd ["_law_cell","_law_by"] (lsp K aE6):=by
 refine ok3 F scRest (fun δ Q Z h=>av2 h) fun cdv A outer s H E hr=>?_
 have nd:=scRest.nd
 refine⟨_,(aa5 (s_if (ae7 bX6 r_ge (dv 0) (d_op aB2 aK7 aa4 aa4) (ad5 _)) (aa9 (ac3 (D3.toE (d_op Fr.ag3 ai9 (dv 0) (dv 1))))) ah7) (aa9 (ac3 (D3.toE (d_op ac7 ad2 (d_op ae1 af3 (dv 0) (d_op aB2 aK7 aa4 aa4)) (dv 1)))))),fun δ Q Z h=>?_⟩
 obtain⟨c,b,rfl,⟨b0,b1⟩,q⟩:=ar7 h
 have P17:(10:Int) ^ (17:Int).toNat=100000000000000000:=by decide
 walk_at "w"
 refine⟨⟨by decide,by decide,by decide⟩,?_⟩
 walk_at "w"
 refine brd (fun _=>?_) (fun _=>?_)
 ·exact⟨⟨b0,b1⟩,q _⟩
 ·walk_at "w"
  refine⟨⟨by decide,by decide,by decide⟩,?_⟩
  walk_at "w"
  rw [P17]
  exact⟨(by show (0:Int) < 100000000000000000;decide),q _⟩
abbrev aH2:Stmt:=top 45
theorem scPart:FnScope ["_law_one","_law_other"] ["_law_one","_law_other"] (aa2 aH2):=⟨rfl,rfl,rfl,by decide +kernel,rfl,by decide +kernel,by decide +kernel⟩
theorem bM9 (F:Fun K "_law_part" "_law_part" aH2 f fd)(T:Bt mg):FnOk P w K mg base (CX1 P w) 1 f fd ["_law_one","_law_other"] (lsp K aj1):=by
 refine ok3 F scPart (fun δ Q Z h=>av2 h) fun cdv A outer s H E hr=>?_
 have nd:=scPart.nd
 refine⟨_,(aa5 (ar4 0 1 rfl (by exact nd) rfl rfl (by decide) rfl rfl (aa0 (am7 aI1 aV5 rfl T.abs boot_abs (aa0 (dv 0) aa3 Fr.aa1)) (aa0 (am7 aI1 aV5 rfl T.abs boot_abs (aa0 (dv 1) aa3 Fr.aa1)) aa3 Fr.ac2) Fr.ac2)) (aa5 (al0 PassesOwn.leaving (ae7 aJ9 r_gt (dv 1) aa4 (ad5 _)) (aa9 (ar4 0 1 rfl (by exact nd) rfl rfl (by decide) rfl rfl (aa0 (dv 1) (aa0 (d_op ae1 af3 (dv 0) (dv 1)) aa3 Fr.ab7) Fr.aa1)))) (aa9 (ac3 (af9 0))))),fun δ Q Z h=>?_⟩
 obtain⟨a,b,rfl,q⟩:=ar7 h
 walk_at "w"
 refine⟨fun m δ=>∃ x y:Int,δ=[.d (.int x),.d (.int y)]∧0≤x∧0≤y∧gcd x y=gcd a b∧m=y.natAbs,⟨_,_,_,rfl,bs0 a,bs0 b,bG8 a b,rfl⟩,?_⟩
 rintro m δ ⟨x,y,rfl,x0,y0,g,rfl⟩
 walk_at "w"
 refine brd (fun c=>?_) (fun c=>?_)
 ·walk_at "w"
  have h1:=emod_nonneg x (show y≠0 by omega)
  have h2:=emod_lt_of_pos x c
  refine⟨c,_,(by omega),y,x % y,rfl,y0,h1,?_,rfl⟩
  rw [← g]
  exact aR1 x y
 ·have e:y=0:=by omega
  subst e
  have e2:((gcd a b:Nat):Int)=x:=by
   rw [← g,gcd_zero_right]
   omega
  have q':Q (.d (.int (gcd a b))) none:=q
  rw [e2] at q'
  exact q'
abbrev as5:Stmt:=top 46
def au6:Sp3:=fun δ Q _=>match δ with
 | [.d (.int t),.d (.int b)]=>t.natAbs < 2 ^ 240∧b.natAbs < 2 ^ 240∧∀ p:Int×Int,(b=0→p=(1,0))→(b≠0→IsShort t b p.1 p.2)→∀ ob,Q (.d (plD p)) ob
 | _=>False
theorem bc0 {t b:Int}(h:b≠0):(gcd t b:Int)≤b.natAbs:=by
 have:=le_of_dvd (by omega) (Int.natAbs_dvd_natAbs.mpr (Int.gcd_dvd_right (a:=t) (b:=b)))
 simp at this
 omega
theorem scLowest:FnScope ["_law_top","_law_bottom","_law_part_here"] ["_law_top","_law_bottom"] (aa2 as5):=⟨rfl,rfl,rfl,by decide +kernel,rfl,by decide +kernel,by decide +kernel⟩
theorem bt6 (F:Fun K "_law_lowest" "_law_lowest" as5 f fd)(T:Bt mg)(O_law_part:Own3 P w K mg base 1 "_law_part" ["_law_one","_law_other"] aj1):FnOk P w K mg base (CX1 P w) 2 f fd ["_law_top","_law_bottom"] (lsp K au6):=by
 refine ok3 F scLowest (fun δ Q Z h=>av2 h) fun cdv A outer s H E hr=>?_
 have nd:=scLowest.nd
 refine⟨_,(aa5 (s_if (ae7 au7 r_eq (dv 1) aa4 (ad5 _)) (aa9 (ac3 (D3.toE (ad1 (aa0 aa4 (aa0 aa4 aa3 Fr.aa7) Fr.aa7))))) ah7) (aa5 (ab8 2 (by exact nd) rfl (Or.inl rfl) (ab0 O_law_part Fr.aa6 hr rfl (aa0 (dv 0) (aa0 (dv 1) aa3 Fr.aa1) Fr.aa1))) (aa5 (s_if (ae7 bh6 r_lt (dv 1) aa4 (ad5 _)) (aa9 (ab8 2 (by exact nd) rfl (Or.inl rfl) (D3.toE (d_op ag6 ai6 aa4 (dv 2))))) ah7) (aa9 (ac3 (D3.toE (ad1 (aa0 (d_op Fr.aV0 bd2 (dv 0) (dv 2)) (aa0 (d_op Fr.aV0 bd2 (dv 1) (dv 2)) aa3 Fr.ab7) Fr.ab7)))))))),fun δ Q Z h=>?_⟩
 obtain⟨t,b,rfl,bt,bb,q⟩:=ar7 h
 walk_at "w"
 refine brd (fun c=>?_) (fun c=>?_)
 ·exact q (1,0) (fun _=>rfl) (fun z=>absurd c z) _
 ·have g0:=aY2 (t:=t) (b:=b) (.inr c)
  have gl:=bc0 (t:=t) c
  have P24:(2:Nat) ^ 240 < 2 ^ 250:=by decide
  have s0:(if b < 0 then 0 - (gcd t b:Int) else (gcd t b:Int))≠0∧(if b < 0 then 0 - (gcd t b:Int) else (gcd t b:Int)).natAbs < 2 ^ 250:=by
   split <;> omega
  have e:shS t b=if b < 0 then 0 - (gcd t b:Int) else (gcd t b:Int):=by
   unfold shS
   by_cases c1:b < 0
   ·rw [if_pos (.inl c1),if_pos c1]
   ·rw [if_neg (by omega),if_neg c1]
  have S:=bK6 (t:=t) (b:=b) (.inr c)
  rw [e] at S
  have q':=q (_,_) (fun z=>absurd z c) (fun _=>S)
  walk_at "w"
  refine brd (fun c1=>?_) (fun c1=>?_)
  ·rw [if_pos c1] at q' s0
   walk_at "w"
   refine⟨s0,?_⟩
   walk_at "w"
   exact⟨s0,q' _⟩
  ·rw [if_neg c1] at q' s0
   walk_at "w"
   refine⟨s0,?_⟩
   walk_at "w"
   exact⟨s0,q' _⟩
abbrev ap8:Stmt:=top 47
def Drw (p:Int×Int):Prop:=IsSpot p.1 p.2∧p.1.natAbs < 2 ^ 70∧p.2.natAbs < 2 ^ 70
theorem Drw.plc {p:Int×Int}(h:Drw p):Plc p:=⟨h.1,lt_of_lt_of_le h.2.1 (pow_le_pow_right (by decide) (by decide)),lt_of_lt_of_le h.2.2 (pow_le_pow_right (by decide) (by decide))⟩
def aE7:Sp3:=fun δ Q _=>match δ with
 | [.d (.int c)]=>∀ p:Int×Int,Drw p→∀ ob,Q (.d (plD p)) ob
 | _=>False
theorem scPlaceBy:FnScope ["_law_cell","_law_kind","_law_top","_law_bottom"] ["_law_cell"] (aa2 ap8):=⟨rfl,rfl,rfl,by decide +kernel,rfl,by decide +kernel,by decide +kernel⟩
theorem bk7 (F:Fun K "_law_place_by" "_law_place_by" ap8 f fd)(T:Bt mg)(O_law_numbers:Own3 P w K mg base 2 "_law_numbers" ["_law_cell","_law_many","_law_most"] am2)(O_law_rest:Own3 P w K mg base 2 "_law_rest" ["_law_cell","_law_by"] aE6)(O_law_lowest:Own3 P w K mg base 2 "_law_lowest" ["_law_top","_law_bottom"] au6) :
  FnOk P w K mg base (CX1 P w) 3 f fd ["_law_cell"] (lsp K aE7):=by
 refine ok3 F scPlaceBy (fun δ Q Z h=>ln_i h) fun cdv A outer s H E hr=>?_
 have nd:=scPlaceBy.nd
 refine⟨_,(aa5 (ab8 1 (by exact nd) rfl (Or.inl rfl) (D3.toE (aK8 (E3.toD (ab0 O_law_numbers Fr.aa6 hr rfl (aa0 (dv 0) (aa0 aa4 (aa0 aa4 aa3 Fr.aa7) Fr.aa7) Fr.aa1))) aa4))) (aa5 (aq2 (E3.toD (ab0 O_law_numbers Fr.aa6 hr rfl (aa0 (E3.toD (ab0 O_law_rest Fr.aa6 hr rfl (aa0 (dv 0) (aa0 aa4 aa3 Fr.aa7) Fr.aa1))) (aa0 aa4 (aa0 (aK8 (E3.toD (ae4 (aa0 aa4 (aa0 aa4 (aa0 aa4 (aa0 (d_op aB2 aK7 aa4 aa4) aa3 Fr.ab7) Fr.aa7) Fr.aa7) Fr.aa7))) (d_op ae1 af3 (dv 1) aa4)) aa3) Fr.aa7) Fr.ac2))) (cb6 (n:=2) rfl (ab6 (ab3 2 (by exact nd) rfl (Or.inl rfl)) (ab6 (ab3 3 (by exact nd) rfl (Or.inl rfl)) ad9)))) (aa5 (s_if (ae7 au7 r_eq (d_op ae1 af3 (d_op Fr.ag3 ai9 (dv 1) aa4) aa4) aa4 (ad5 _)) (aa9 (ab8 2 (by exact nd) rfl (Or.inl rfl) (D3.toE (d_op ag6 ai6 aa4 (dv 2))))) ah7) (aa9 (ac3 (ab0 O_law_lowest Fr.aa6 hr rfl (aa0 (dv 2) (aa0 (d_op Fr.ac1 ac9 (dv 3) (aV4 aQ5 bn8 rfl T.int boot_int (aa0 (aK6 aJ9 r_gt (d_op Fr.ag3 ai9 (dv 1) aa4) aa4 (ad5 _)) aa3 Fr.aW0))) aa3 Fr.ab7) Fr.aa1))))))),fun δ Q Z h=>?_⟩
 obtain⟨c,rfl,q⟩:=iv_i h
 have P20:(10:Int) ^ (20:Int).toNat=100000000000000000000:=by decide
 have P70:(2:Nat) ^ 70=1180591620717411303424:=by decide
 have P240:(2:Nat) ^ 70≤2 ^ 240:=by decide
 have p250:(100000000000000000001:Int) < 2 ^ 250:=by decide
 walk_at "w"
 refine⟨⟨by decide,by decide⟩,⟨by decide,by decide⟩,fun ns hl hb ob=>?_⟩
 match ns,hl,hb with
 | [kind],_,hb =>
  obtain⟨k0,k1⟩:=hb kind mem_cons_self
  walk_at "w"
  refine⟨_,rfl,?_⟩
  walk_at "w"
  refine⟨⟨by decide,by decide⟩,fun x=>?_⟩
  walk_at "w"
  refine⟨⟨by decide,by decide,by decide⟩,?_⟩
  walk_at "w"
  refine⟨(by show (0:Int) < 4;decide),?_⟩
  obtain⟨z,hz,z1,z2⟩:∃ z:Int,atI [D.int 12,D.int 50,D.int 400,D.int (10 ^ (20:Int).toNat)] (kind % 4)=some (.int z)∧1≤z∧z≤100000000000000000000:=by
   rcases (show kind % 4=0∨kind % 4=1∨kind % 4=2∨kind % 4=3 by omega) with e | e | e | e <;> rw [e]
   ·exact⟨12,rfl,by decide,by decide⟩
   ·exact⟨50,rfl,by decide,by decide⟩
   ·exact⟨400,rfl,by decide,by decide⟩
   ·exact⟨_,rfl,by decide,by decide⟩
  walk_at "w"
  refine⟨.int z,hz,?_⟩
  walk_at "w"
  refine⟨⟨by decide,by decide⟩,⟨by omega,by omega⟩,fun ns2 hl2 hb2 ob=>?_⟩
  match ns2,hl2,hb2 with
  | [top,bot],_,hb2 =>
   obtain⟨t0,t1⟩:=hb2 top mem_cons_self
   obtain⟨b0,b1⟩:=hb2 bot (mem_cons_of_mem _ mem_cons_self)
   have fin:∀ (t b:Int),t.natAbs < 2 ^ 70→b.natAbs < 2 ^ 70→∀ p:Int×Int,(b=0→p=(1,0))→(b≠0→IsShort t b p.1 p.2)→Drw p:=fun t b ht hb p h0 h1=>by
    by_cases c:b=0
    ·rw [h0 c]
     exact⟨.inl ⟨rfl,rfl⟩,by decide,by decide⟩
    ·have S:=h1 c
     refine⟨?_,lt_of_le_of_lt S.bp ht,lt_of_le_of_lt S.bq hb⟩
     rcases S.sg with z | ⟨z1,z2⟩
     ·exact .inr ⟨z,S.co⟩
     ·exact .inl ⟨z2,z1⟩
   walk_at "w"
   refine⟨⟨by decide,by decide⟩,?_⟩
   walk_at "w"
   refine⟨(by show (0:Int) < 2;decide),?_⟩
   walk_at "w"
   refine brd (fun _=>?_) (fun _=>?_)
   all_goals
    walk_at "w"
    refine⟨⟨by decide,by decide⟩,?_⟩
    walk_at "w"
    have f1:Fit (if decide (0 < kind / 8)=true then (1:Int) else 0):=by split <;> exact fitI (by decide)
    have bb:(bot*(if decide (0 < kind / 8)=true then (1:Int) else 0)).natAbs < 2 ^ 70:=by split <;> omega
    refine⟨⟨aN2 (B:=70) (by omega) (by decide),f1⟩,?_⟩
    walk_at "w"
    refine⟨lt_of_lt_of_le (m:=2 ^ 70) (by omega) P240,lt_of_lt_of_le bb P240,fun p h0 h1 ob=>?_⟩
    exact q p (fin _ _ (by omega) bb p h0 h1) _
abbrev ax9:Stmt:=top 48
def aQ2:Sp3:=fun δ Q _=>match δ with
 | [.d y]=>∃ p:Int×Int,y=plD p∧Plc p∧∀ ob,Q (.own (.lst (plZ (stps p)))) ob
 | _=>False
theorem scWayTo:FnScope ["_law_one","_law_found","_law_ahead","_law_here","_law_top","_law_bottom","_law_k"] ["_law_one"] (aa2 ax9):=⟨rfl,rfl,rfl,by decide +kernel,rfl,by decide +kernel,by decide +kernel⟩
theorem bB3 (F:Fun K "_law_way_to" "_law_way_to" ax9 f fd)(T:Bt mg):FnOk P w K mg base (CX1 P w) 1 f fd ["_law_one"] (lsp K aQ2):=by
 refine ok3 F scWayTo (fun δ Q Z h=>ln_d h) fun cdv A outer s H E hr=>?_
 have nd:=scWayTo.nd
 refine⟨_,(aa5 (ab8 1 (by exact nd) rfl (Or.inl rfl) (ae4 (aa0 (ad1 (aa0 aa4 (aa0 aa4 aa3 Fr.aa7) Fr.aa7)) aa3 Fr.ac6))) (aa5 (aq2 (ad1 (aa0 (ad1 (aa0 aa4 (aa0 aa4 aa3 Fr.aa7) Fr.aa7)) (aa0 (ad1 (aa0 aa4 (aa0 aa4 aa3 Fr.aa7) Fr.aa7)) aa3 Fr.ac6) Fr.ac6)) (ae8 (n:=2) rfl (ab6 (ab3 2 (by exact nd) rfl (Or.inl rfl)) (ab6 (ab3 3 (by exact nd) rfl (Or.inl rfl)) ad9)))) (aa5 (aq2 (dv 0) (ae8 (n:=2) rfl (ab6 (ab3 4 (by exact nd) rfl (Or.inl rfl)) (ab6 (ab3 5 (by exact nd) rfl (Or.inl rfl)) ad9)))) (aa5 (al0 PassesOwn.leaving (ae7 aJ9 r_gt (dv 5) aa4 (ad5 _)) (aa5 (ab8 6 (by exact nd) rfl (Or.inl rfl) (D3.toE (d_op Fr.ag3 ai9 (dv 4) (dv 5)))) (aa5 (ar4 2 3 rfl (by exact nd) rfl rfl (by decide) rfl rfl (aa0 (dv 3) (aa0 (ad1 (aa0 (d_op ac7 ad2 (d_op Fr.ac1 ac9 (dv 6) (ad3 (dv 3) aa4)) (ad3 (dv 2) aa4)) (aa0 (d_op ac7 ad2 (d_op Fr.ac1 ac9 (dv 6) (ad3 (dv 3) aa4)) (ad3 (dv 2) aa4)) aa3 Fr.ab7) Fr.ab7)) aa3 Fr.ac6) Fr.aa1)) (aa5 (ag4 1 (dv 3)) (aa9 (ar4 4 5 rfl (by exact nd) rfl rfl (by decide) rfl rfl (aa0 (dv 5) (aa0 (d_op ag6 ai6 (dv 4) (d_op Fr.ac1 ac9 (dv 6) (dv 5))) aa3 Fr.ab7) Fr.aa1))))))) (aa9 (ac3 (af9 1))))))),fun δ Q Z h=>?_⟩
 obtain⟨y,rfl,p,e,hp,q⟩:=iv_d h
 subst e
 walk_at "w"
 refine⟨fun m δ=>∃ (G:List (Int×Int)) (b l:Int×Int) (t u:Int) (s6:Sl),δ=[.d (plD p),.own (.lst (plZ (G++[l]))),.d (plD b),.d (plD l),.d (.int t),.d (.int u),s6]∧0≤u∧t.natAbs < 2 ^ 170∧u.natAbs < 2 ^ 170∧m=u.natAbs∧stps p=G++ad0 b l (ae2 t u),⟨_,[],(0,1),(1,0),p.1,p.2,.un,rfl,hp.nn,hp.b1,hp.b2,rfl,rfl⟩,?_⟩
 rintro m δ ⟨G,b,l,t,u,s6,rfl,u0,bt,bu,rfl,hG⟩
 have p170:(2:Nat) ^ 170≤2 ^ 250:=by decide
 have p250:((2 ^ 250:Nat):Int)=(2:Int) ^ 250:=by norm_cast
 walk_at "w"
 refine brd (fun c=>?_) (fun c=>?_)
 ·have up:0 < u:=c
  rw [ag0 up] at hG
  have lin:l∈stps p:=by rw [hG];simp [ad0]
  obtain⟨fl1,fl2⟩:=aA6 hp l lin
  have fk:Fit (t / u):=aN2 (B:=170) (lt_of_le_of_lt (Int.natAbs_ediv_le_natAbs t u) bt) (by decide)
  have gl:(plZ (G++[l])).length≤1000000:=by
   have h1:=congrArg length hG
   have h2:=aj3 hp
   rw [length_append,ar3] at h1
   unfold plZ
   rw [length_map,length_append]
   show _+1≤_
   omega
  have em:t - t / u*u=t % u:=by
   have:=emod_add_mul_ediv t u
   have h2:u*(t / u)=t / u*u:=Int.mul_comm _ _
   omega
  have m0:=emod_nonneg t (show u≠0 by omega)
  have m1:=emod_lt_of_pos t up
  walk_at "w"
  refine⟨⟨up,by omega⟩,?_⟩
  walk_at "w"
  refine⟨_,rfl,⟨fk,fl1⟩,?_⟩
  walk_at "w"
  refine⟨_,rfl,?_⟩
  walk_at "w"
  refine⟨_,rfl,⟨fk,fl2⟩,?_⟩
  walk_at "w"
  refine⟨_,rfl,?_⟩
  walk_at "w"
  refine⟨gl,?_⟩
  walk_at "w"
  refine⟨⟨fk,aN2 bu (by decide)⟩,?_⟩
  walk_at "w"
  refine⟨(t % u).natAbs,by omega,G++[l],l,(t / u*l.1+b.1,t / u*l.2+b.2),u,t % u,.d (.int (t / u)),?_,m0,bu,by omega,rfl,?_⟩
  ·rw [← em]
   unfold plZ
   rw [map_append (l₁:=G++[l])]
   rfl
  ·rw [hG,append_assoc]
   rfl
 ·have e:u=0:=by omega
  subst e
  rw [ag1 (Int.le_refl 0)] at hG
  have hG:stps p=G++[l]:=hG
  rw [hG] at q
  exact q _
abbrev sSum:Stmt:=top 53
def bk8:Sp3:=fun δ Q _=>match δ with
 | [.d x,.d (.int m)]=>∃ (n:Nat) (gs:List (Nat→Int)),x=.lst (gs.map fun g=>lstZ (rowV n g))∧m=(kN n:Nat)∧kN n≤100∧∀ ob,Q (.own (.lst ((rowV n fun j=>(gs.map fun g=>g j).sum).map D.int))) ob
 | _=>False
def adF1:D→D
 | .tup [.int a,.int b]=>.int (a+b)
 | y=>y
theorem ba0:∀ row other:List Int,(zipD (row.map D.int) (other.map D.int)).map adF1=(addZ row other 1).map D.int
 | [],_=>rfl
 | _::_,[]=>rfl
 | a::r,b::o=>by
  have e:a+b=a+1*b:=by omega
  show D.int (a+b)::_=D.int (a+1*b)::_
  rw [e]
  exact congrArg _ (ba0 r o)
theorem addV (n:Nat)(h g:Nat→Int):addZ (rowV n h) (rowV n g) 1=rowV n fun j=>h j+g j:=by
 unfold rowV
 induction List.range (kN n) with
 | nil=>rfl
 | cons x l ih =>
  show (h x+1*g x)::addZ (l.map h) (l.map g) 1=(h x+g x)::_
  rw [ih]
  have e:h x+1*g x=h x+g x:=by omega
  rw [e]
theorem scSum:FnScope ["_law_rows","_law_many","_law_made","_law_row"] ["_law_rows","_law_many"] (aa2 sSum):=⟨rfl,rfl,rfl,by decide +kernel,rfl,by decide +kernel,by decide +kernel⟩
theorem bW0 (F:Fun K "_law_sum" "_law_sum" sSum f fd)(T:Bt mg):FnOk P w K mg base (CX1 P w) 1 f fd ["_law_rows","_law_many"] (lsp K bk8):=by
 refine ok3 F scSum (fun δ Q Z h=>bD4 h) fun cdv A outer s H E hr=>?_
 have nd:=scSum.nd
 refine⟨_,(aa5 (ab8 2 (by exact nd) rfl (Or.inl rfl) (aq3 at3 az0 (E3.toD (ae4 (aa0 aa4 aa3 Fr.aa7))) (dv 1))) (aa5 (af5 PassesOwn.leaving rfl (af4 (dv 0)) (ab3 3 (by exact nd) rfl (Or.inl rfl)) (aa9 (aC8 2 (by exact nd) rfl (Or.inl rfl) rfl (I3.toC (aT6 rfl T.zip (aa0 (dv 2) (aa0 (dv 3) aa3 Fr.aa1) Fr.aa1))) (Fr.ah9 (xs:=["_law_one","_law_other"]) (fr:=[]) (sc:=aa2 sSum) (N:=["_law_rows","_law_many","_law_made","_law_row"]) rfl rfl (by decide +kernel)) (fun _ _ _ _=>(ae8 (n:=2) rfl (ab6 (ab3 0 (show Nodup [("_law_one" : Str),("_law_other" : Str)] by decide +kernel) rfl (Or.inl rfl)) (ab6 (ab3 1 (show Nodup [("_law_one" : Str),("_law_other" : Str)] by decide +kernel) rfl (Or.inl rfl)) ad9)))) (fun _ _ _ _=>aq5 rfl (D3.toE (d_op ac7 ad2 (dv 0) (dv 1))))))) (aa9 (ac3 (af9 2))))),fun δ Q Z h=>?_⟩
 obtain⟨x,m,rfl,n,gs,e1,e2,hk,q⟩:=bi7 h
 subst e1 e2
 walk_at "w"
 refine⟨⟨by omega,by omega,by decide⟩,?_⟩
 rw [aj2,show (((kN n:Nat):Int)).toNat=kN n by omega]
 walk_at "w"
 refine ae0 (fun i δ=>∃ (h:Nat→Int) (s3:Sl),δ=[.d (.lst (gs.map fun g=>lstZ (rowV n g))),.d (.int (kN n:Nat)),.own (.lst ((rowV n h).map D.int)),s3]∧∀ j,h j=((gs.take i).map fun g=>g j).sum) ⟨fun _=>0,.un,?_,fun j=>rfl⟩ ?_ ?_
 ·unfold rowV
  rw [map_map,show (D.int ∘ fun _:Nat=>(0:Int))=fun _=>D.int 0 from rfl,List.map_const',length_range]
  rfl
 ·rintro i z δ N hz ⟨h,s3,rfl,eh⟩ hN
  rw [getElem?_map] at hz
  obtain⟨g,hg,rfl⟩:=Option.map_eq_some_iff.mp hz
  have lr:∀ g:Nat→Int,(rowV n g).length=kN n:=fun g=>by unfold rowV;rw [length_map,length_range]
  walk_at "w"
  refine⟨by rw [am9,length_map,lr];omega,ai2 (l:=[]) rfl adF1 (fun z hz=>?_) ?_⟩
  ·obtain⟨a,b,rfl,_,_⟩:=aP6 hz
   exact⟨_,_,rfl,fun P p=>p⟩
  ·rw [ba0,addV]
   exact hN _ ⟨fun j=>h j+g j,_,rfl,fun j=>by show h j+g j=_;rw [eh j,take_snoc hg,map_append,sum_append];show _=_+(g j+0);omega⟩
 ·rintro δ ⟨h,s3,rfl,eh⟩
  rw [length_map,take_length] at eh
  have e:h=fun j=>(gs.map fun g=>g j).sum:=funext eh
  rw [e]
  exact q _
end
end
noncomputable section
def mtQ (m:Mt):D:=.tup [.tup [.int m.a,.int m.b],.tup [.int m.c,.int m.d]]
theorem fitM {B:Nat}{x:Int}(h:x.natAbs < 2 ^ B)(hB:B≤1000:=by decide):Fit x:=aN2 h (le_trans hB (by decide))
theorem aN3:∀ (ks:List Int) (b l:Int×Int),0≤b.2→1≤l.2→(∀ k∈ks,1≤k)→∀ (i:Nat) (p q:Int×Int),(ad0 b l ks)[i]?=some p→(ad0 b l ks)[i+1]?=some q→0≤p.2∧p.2≤q.2
 | [],b,l,_,_,_,i,p,q,h1,h2=>by
  have:(ad0 b l [])[i+1]?=none:=by simp [ad0]
  rw [this] at h2
  cases h2
 | k::ks,b,l,hb,hl,hk,0,p,q,h1,h2=>by
  have e1:l=p:=by simpa [ad0] using h1
  have e2:(k*l.1+b.1,k*l.2+b.2)=q:=by cases ks <;> simpa [ad0] using h2
  subst e1 e2
  have k1:=hk k mem_cons_self
  have:1*l.2≤k*l.2:=Int.mul_le_mul_of_nonneg_right k1 (by omega)
  exact⟨by omega,by show l.2≤k*l.2+b.2;omega⟩
 | k::ks,b,l,hb,hl,hk,i+1,p,q,h1,h2=>by
  have k1:=hk k mem_cons_self
  have:1*l.2≤k*l.2:=Int.mul_le_mul_of_nonneg_right k1 (by omega)
  exact aN3 ks l (k*l.1+b.1,k*l.2+b.2) (by omega) (by show 1≤k*l.2+b.2;omega) (fun x hx=>hk x (mem_cons_of_mem _ hx)) i p q (by simpa [ad0] using h1) (by simpa [ad0] using h2)
theorem bB4 {p:Int×Int}(h:Plc p)(hy:0 < p.2):∃ (G:List (Int×Int)) (s:Int×Int),stps p=G++[s,p]∧NextTo s p∧0≤s.2∧s.2≤p.2:=by
 have hl:=aq1 p.2.toNat p.1 p.2 (0,1) (1,0) (le_refl _) h.nn (fun z=>by omega) h.spot.gcd
 have hl:(stps p).getLast?=some p:=by
  refine Eq.trans hl (congrArg some (Prod.ext ?_ ?_))
  ·show 1*p.1+0*p.2=p.1;omega
  ·show 0*p.1+1*p.2=p.2;omega
 have eq:stps p=(1,0)::ad0 (1,0) (p.1 / p.2,1) (ae2 p.2 (p.1 % p.2)):=by
  unfold stps
  rw [ag0 hy]
  show (1,0)::ad0 (1,0) (p.1 / p.2*1+0,p.1 / p.2*0+1) _=_
  have e1:(p.1 / p.2*1+0,p.1 / p.2*0+1)=(p.1 / p.2,(1:Int)):=Prod.ext (by dsimp only;omega) (by dsimp only;omega)
  rw [e1]
 have m0:=emod_nonneg p.1 (show p.2≠0 by omega)
 have m1:=emod_lt_of_pos p.1 hy
 have ks:=aD5 (p.1 % p.2).toNat p.2 (p.1 % p.2) (le_refl _) m1
 have rise:=aN3 (ae2 p.2 (p.1 % p.2)) (1,0) (p.1 / p.2,1) (by decide) (show (1:Int)≤1 by decide) ks
 have len:2≤(stps p).length:=by rw [eq,length_cons,ar3];omega
 have i1:(stps p).length - 2 < (stps p).length:=by omega
 have i2:(stps p).length - 1 < (stps p).length:=by omega
 have ep:(stps p)[(stps p).length - 1]=p:=by
  rw [List.getLast?_eq_getElem?,getElem?_eq_getElem i2] at hl
  exact Option.some.inj hl
 have w1:=getElem?_eq_getElem i1
 have w2:=getElem?_eq_getElem i2
 rw [ep] at w2
 refine⟨(stps p).take ((stps p).length - 2),(stps p)[(stps p).length - 2],?_,(au0 p).at w1 (by rw [show (stps p).length - 2+1=(stps p).length - 1 by omega];exact w2),?_⟩
 ·have e3:stps p=(stps p).take ((stps p).length - 2)++(stps p).drop ((stps p).length - 2):=(List.take_append_drop _ _).symm
  have e4:(stps p).drop ((stps p).length - 2)=[(stps p)[(stps p).length - 2],p]:=by
   rw [drop_eq_getElem_cons i1,show (stps p).length - 2+1=(stps p).length - 1 by omega,drop_eq_getElem_cons i2,ep,show (stps p).length - 1+1=(stps p).length by omega,drop_length]
  rw [e4] at e3
  exact e3
 ·generalize (stps p)[(stps p).length - 2]=s at w1
  obtain⟨L,hL⟩:∃ L,(stps p).length=L+2:=⟨(stps p).length - 2,by omega⟩
  rw [show (stps p).length - 2=L by omega] at w1
  rw [show (stps p).length - 1=L+1 by omega] at w2
  rw [eq] at w1 w2
  cases L with
  | zero =>
   have:(1,0)=s:=by simpa using w1
   rw [← this]
   exact⟨by decide,by show (0:Int)≤p.2;omega⟩
  | succ k=>exact rise k s p (by simpa using w1) (by simpa using w2)
theorem bN0 {s p:Int×Int}(h:NextTo s p)(h0:0≤s.2)(h1:s.2≤p.2)(hy:0 < p.2):s.1.natAbs≤p.1.natAbs+1:=by
 have e:(s.1*p.2 - s.2*p.1).natAbs=1:=by unfold NextTo at h;omega
 have h2:s.1.natAbs*p.2.natAbs≤s.2.natAbs*p.1.natAbs+1:=by
  rw [← natAbs_mul,← natAbs_mul]
  omega
 have h3:s.2.natAbs*p.1.natAbs≤p.2.natAbs*p.1.natAbs:=mul_le_mul_right _ (by omega)
 have h4:p.2.natAbs*s.1.natAbs≤p.2.natAbs*(p.1.natAbs+1):=by
  rw [mul_comm,Nat.mul_add,Nat.mul_one]
  omega
 exact Nat.le_of_mul_le_mul_left h4 (by omega)
theorem bN1 {c:Int}(c1:1≤c)(d:Int):∃ D,d≤D∧D < d+c∧gcd D c=1:=by
 have m0:=emod_nonneg (1 - d) (show c≠0 by omega)
 have m1:=emod_lt_of_pos (1 - d) (show 0 < c by omega)
 refine⟨d+(1 - d) % c,by omega,by omega,aG4 (x:=1) (y:=(1 - d) / c) ?_⟩
 have e:=emod_add_mul_ediv (1 - d) c
 have e2:c*((1 - d) / c)=(1 - d) / c*c:=Int.mul_comm _ _
 omega
theorem bB5 {c d:Int}(c1:1≤c)(g:gcd d c=1):∃ X,1≤X∧X≤c∧(X*d - 1) % c=0:=by
 obtain⟨u,v,e⟩:=bj3 g
 have m0:=emod_nonneg (u - 1) (show c≠0 by omega)
 have m1:=emod_lt_of_pos (u - 1) (show 0 < c by omega)
 refine⟨1+(u - 1) % c,by omega,by omega,Int.emod_eq_zero_of_dvd ⟨-v - (u - 1) / c*d,?_⟩⟩
 have h:=emod_add_mul_ediv (u - 1) c
 have h2:1+(u - 1) % c=u - c*((u - 1) / c):=by omega
 rw [h2]
 grind
theorem bB6 {p o:Int×Int}{m:Int}{B:Nat}(h:NextTo p o)(hB:B≤160)(h1:o.1.natAbs < 2 ^ B)(h2:o.2.natAbs < 2 ^ B)(h3:p.1.natAbs < 2 ^ B)(h4:p.2.natAbs < 2 ^ B)(hm:m.natAbs≤3) :
  ((o.1+m*p.1).natAbs < 2 ^ (B+3)∧(o.2+m*p.2).natAbs < 2 ^ (B+3))∧∀ p':Int×Int,(o.2+m*p.2=0→p'=(1,0))→(o.2+m*p.2≠0→IsShort (o.1+m*p.1) (o.2+m*p.2) p'.1 p'.2)→NextTo p p'∧Plc p'∧p'.1.natAbs < 2 ^ (B+3)∧p'.2.natAbs < 2 ^ (B+3):=by
 have m1:(m*p.1).natAbs≤3*p.1.natAbs:=by rw [natAbs_mul];exact mul_le_mul_right _ hm
 have m2:(m*p.2).natAbs≤3*p.2.natAbs:=by rw [natAbs_mul];exact mul_le_mul_right _ hm
 have P3:(2:Nat) ^ (B+3)=8*2 ^ B:=by rw [pow_add];omega
 have bt:(o.1+m*p.1).natAbs < 2 ^ (B+3):=by have:=natAbs_add_le o.1 (m*p.1);omega
 have bb:(o.2+m*p.2).natAbs < 2 ^ (B+3):=by have:=natAbs_add_le o.2 (m*p.2);omega
 have N:NextTo p (o.1+m*p.1,o.2+m*p.2):=au2 h
 have co:=bf9 N.symm
 have co:gcd (o.1+m*p.1) (o.2+m*p.2)=1:=co
 generalize o.1+m*p.1=t at *
 generalize o.2+m*p.2=b at *
 refine⟨⟨bt,bb⟩,fun p' e0 e1=>?_⟩
 have big:∀ x:Int,x.natAbs < 2 ^ (B+3)→x.natAbs < 2 ^ 170:=fun x hx=>lt_of_lt_of_le hx (pow_le_pow_right (by decide) (by omega))
 have two:1 < 2 ^ (B+3):=Nat.one_lt_two_pow (by omega)
 by_cases c:b=0
 ·rw [e0 c]
  rw [c,gcd_zero_right] at co
  refine⟨?_,⟨.inl ⟨rfl,rfl⟩,by decide,by decide⟩,two,by show 0 < _;omega⟩
  rw [c] at N
  rcases (show t=1∨t=-1 by omega) with z | z
  ·rw [z] at N;exact N
  ·rw [z] at N
   have:=au1 N
   exact this
 ·have S:=e1 c
  have sp:IsSpot p'.1 p'.2:=by
   rcases S.sg with z | ⟨z1,z2⟩
   ·exact .inr ⟨z,S.co⟩
   ·exact .inl ⟨z2,z1⟩
  have l1:=lt_of_le_of_lt S.bp bt
  have l2:=lt_of_le_of_lt S.bq bb
  refine⟨?_,⟨sp,big _ l1,big _ l2⟩,l1,l2⟩
  rcases aM5 S co with ⟨z1,z2⟩ | ⟨z1,z2⟩
  ·have:p'=(t,b):=Prod.ext z1 z2
   rw [this];exact N
  ·have:p'=ngP (t,b):=Prod.ext z1 z2
   rw [this];exact au1 N
theorem ba1:∀ {G:List (Int×Int)} {x y:Int×Int},Adj (G++[x])→NextTo x y→Adj (G++[x]++[y])
 | [],_,_,_,h=>⟨h,trivial⟩
 | [_],_,_,h1,h=>⟨h1.1,h,trivial⟩
 | _::b::G,_,_,h1,h=>⟨h1.1,ba1 (G:=b::G) h1.2 h⟩
section
variable {P:Program}{w:World}{K:PySem.W.Frag}{mg:Str→Option Value}{base:Heap}{f:Addr}{fd:FuncData}
abbrev aH3:Stmt:=top 49
def ba2:Sp3:=fun δ Q _=>match δ with
 | [.d x,.d y]=>∃ m k:Mt,x=mtQ m∧y=mtQ k∧m.bd 500∧k.bd 500∧∀ ob,Q (.d (mtQ (m.mul k))) ob
 | _=>False
theorem scBoth:FnScope ["_law_one","_law_other","_law_a","_law_b","_law_c","_law_d","_law_e","_law_f","_law_g","_law_h"] ["_law_one","_law_other"] (aa2 aH3):=⟨rfl,rfl,rfl,by decide +kernel,rfl,by decide +kernel,by decide +kernel⟩
theorem bN2 (F:Fun K "_law_both" "_law_both" aH3 f fd)(T:Bt mg):FnOk P w K mg base (CX1 P w) 1 f fd ["_law_one","_law_other"] (lsp K ba2):=by
 refine ok3 F scBoth (fun δ Q Z h=>aF7 h) fun cdv A outer s H E hr=>?_
 have nd:=scBoth.nd
 refine⟨_,(aa5 (aq2 (ad3 (dv 0) aa4) (ae8 (n:=2) rfl (ab6 (ab3 2 (by exact nd) rfl (Or.inl rfl)) (ab6 (ab3 3 (by exact nd) rfl (Or.inl rfl)) ad9)))) (aa5 (aq2 (ad3 (dv 0) aa4) (ae8 (n:=2) rfl (ab6 (ab3 4 (by exact nd) rfl (Or.inl rfl)) (ab6 (ab3 5 (by exact nd) rfl (Or.inl rfl)) ad9)))) (aa5 (aq2 (dv 1) (ae8 (n:=2) rfl (ab6 (ae8 (n:=2) rfl (ab6 (ab3 6 (by exact nd) rfl (Or.inl rfl)) (ab6 (ab3 7 (by exact nd) rfl (Or.inl rfl)) ad9))) (ab6 (ae8 (n:=2) rfl (ab6 (ab3 8 (by exact nd) rfl (Or.inl rfl)) (ab6 (ab3 9 (by exact nd) rfl (Or.inl rfl)) ad9))) ad9)))) (aa9 (ac3 (D3.toE (ad1 (aa0 (ad1 (aa0 (d_op ac7 ad2 (d_op Fr.ac1 ac9 (dv 2) (dv 6)) (d_op Fr.ac1 ac9 (dv 3) (dv 8))) (aa0 (d_op ac7 ad2 (d_op Fr.ac1 ac9 (dv 2) (dv 7)) (d_op Fr.ac1 ac9 (dv 3) (dv 9))) aa3 Fr.ab7) Fr.ab7)) (aa0 (ad1 (aa0 (d_op ac7 ad2 (d_op Fr.ac1 ac9 (dv 4) (dv 6)) (d_op Fr.ac1 ac9 (dv 5) (dv 8))) (aa0 (d_op ac7 ad2 (d_op Fr.ac1 ac9 (dv 4) (dv 7)) (d_op Fr.ac1 ac9 (dv 5) (dv 9))) aa3 Fr.ab7) Fr.ab7)) aa3 Fr.ac6) Fr.ac6)))))))),fun δ Q Z h=>?_⟩
 obtain⟨x,y,rfl,m,k,e1,e2,⟨a1,a2,a3,a4⟩,⟨b1,b2,b3,b4⟩,q⟩:=az6 h
 subst e1 e2
 walk_at "w"
 refine⟨_,rfl,?_⟩
 walk_at "w"
 refine⟨_,rfl,?_⟩
 walk_at "w"
 refine⟨⟨fitM a1,fitM b1⟩,?_⟩
 walk_at "w"
 refine⟨⟨fitM a2,fitM b3⟩,?_⟩
 walk_at "w"
 refine⟨⟨fitM a1,fitM b2⟩,?_⟩
 walk_at "w"
 refine⟨⟨fitM a2,fitM b4⟩,?_⟩
 walk_at "w"
 refine⟨⟨fitM a3,fitM b1⟩,?_⟩
 walk_at "w"
 refine⟨⟨fitM a4,fitM b3⟩,?_⟩
 walk_at "w"
 refine⟨⟨fitM a3,fitM b2⟩,?_⟩
 walk_at "w"
 refine⟨⟨fitM a4,fitM b4⟩,?_⟩
 walk_at "w"
 exact q _
abbrev ay0:Stmt:=top 50
def aQ3:Sp3:=fun δ Q _=>match δ with
 | [.d (.int i),.d (.int t)]=>∃ n:Nat,i=n∧1≤n∧n≤48∧0≤t∧∀ m:Mt,m.det=1→(n:Int)∣m.c→m.bd 16→∀ ob,Q (.d (mtQ m)) ob
 | _=>False
theorem scAnyOf:FnScope ["_law_n","_law_number","_law_c","_law_d","_law_x"] ["_law_n","_law_number"] (aa2 ay0):=⟨rfl,rfl,rfl,by decide +kernel,rfl,by decide +kernel,by decide +kernel⟩
theorem bB7 (F:Fun K "_law_any_of_level" "_law_any_of_level" ay0 f fd)(T:Bt mg)(O_law_part:Own3 P w K mg base 1 "_law_part" ["_law_one","_law_other"] aj1):FnOk P w K mg base (CX1 P w) 2 f fd ["_law_n","_law_number"] (lsp K aQ3):=by
 refine ok3 F scAnyOf (fun δ Q Z h=>av2 h) fun cdv A outer s H E hr=>?_
 have nd:=scAnyOf.nd
 refine⟨_,(aa5 (ab8 2 (by exact nd) rfl (Or.inl rfl) (D3.toE (d_op Fr.ac1 ac9 (dv 0) (d_op ac7 ad2 aa4 (d_op ae1 af3 (dv 1) aa4))))) (aa5 (ab8 3 (by exact nd) rfl (Or.inl rfl) (D3.toE (d_op ac7 ad2 aa4 (d_op ae1 af3 (d_op Fr.ag3 ai9 (dv 1) aa4) aa4)))) (aa5 (al0 PassesOwn.leaving (ae7 ay2 r_ne (E3.toD (ab0 O_law_part Fr.aa6 hr rfl (aa0 (dv 3) (aa0 (dv 2) aa3 Fr.aa1) Fr.aa1))) aa4 (ad5 _)) (aa9 (ab8 3 (by exact nd) rfl (Or.inl rfl) (D3.toE (d_op ac7 ad2 (dv 3) aa4))))) (aa5 (ab8 4 (by exact nd) rfl (Or.inl rfl) (D3.toE aa4)) (aa5 (al0 PassesOwn.leaving (ae7 ay2 r_ne (d_op ae1 af3 (d_op ag6 ai6 (d_op Fr.ac1 ac9 (dv 4) (dv 3)) aa4) (dv 2)) aa4 (ad5 _)) (aa9 (ab8 4 (by exact nd) rfl (Or.inl rfl) (D3.toE (d_op ac7 ad2 (dv 4) aa4))))) (aa9 (ac3 (D3.toE (ad1 (aa0 (ad1 (aa0 (dv 4) (aa0 (d_op Fr.ag3 ai9 (d_op ag6 ai6 (d_op Fr.ac1 ac9 (dv 4) (dv 3)) aa4) (dv 2)) aa3 Fr.ab7) Fr.aa1)) (aa0 (ad1 (aa0 (dv 2) (aa0 (dv 3) aa3 Fr.aa1) Fr.aa1)) aa3 Fr.ac6) Fr.ac6)))))))))),fun δ Q Z h=>?_⟩
 obtain⟨i,t,rfl,n,e,n1,n2,t0,q⟩:=ar7 h
 subst e
 walk_at "w"
 refine⟨(by show (0:Int) < 3;decide),?_⟩
 walk_at "w"
 refine⟨⟨fitI (by omega),fitI (by omega)⟩,?_⟩
 obtain⟨c,ec⟩:∃ c:Int,c=(n:Int)*(1+t % 3):=⟨_,rfl⟩
 have cn:(n:Int)∣c:=⟨_,ec⟩
 have c1:1≤c:=by
  rw [ec]
  have:(1:Int)*1≤(n:Int)*(1+t % 3):=Int.mul_le_mul (by omega) (by omega) (by omega) (by omega)
  omega
 have c2:c≤144:=by
  rw [ec]
  have:(n:Int)*(1+t % 3)≤48*3:=Int.mul_le_mul (by omega) (by omega) (by omega) (by omega)
  omega
 have p144:(144:Int) < 2 ^ 250:=by decide
 have d01:2≤2+t / 3 % 60∧2+t / 3 % 60≤61:=by omega
 obtain⟨D,hD1,hD2,hD3⟩:=bN1 c1 (2+t / 3 % 60)
 walk_at "w"
 refine⟨⟨by decide,by decide⟩,?_⟩
 walk_at "w"
 refine⟨(by show (0:Int) < 60;decide),?_⟩
 walk_at "w"
 refine⟨fun m δ=>∃ c' d:Int,δ=[.d (.int (n:Nat)),.d (.int t),.d (.int c'),.d (.int d),.un]∧c=c'∧2≤d∧d≤D∧m=(D - d).toNat,⟨_,_,_,rfl,ec,d01.1,hD1,rfl⟩,?_⟩
 rintro m δ ⟨c',d,rfl,rfl,d2,dD,rfl⟩
 walk_at "w"
 refine brn (fun h=>?_) (fun h=>?_)
 ·walk_at "w"
  have nD:d≠D:=fun e=>h (by rw [e];exact congrArg Nat.cast hD3)
  exact⟨_,(by omega),_,d+1,rfl,rfl,by omega,by omega,rfl⟩
 ·have g:gcd d c=1:=by exact_mod_cast h
  clear h
  obtain⟨X,x1,x2,hX⟩:=bB5 c1 g
  walk_at "w"
  refine⟨fun m δ=>∃ x:Int,δ=[.d (.int (n:Nat)),.d (.int t),.d (.int c),.d (.int d),.d (.int x)]∧1≤x∧x≤X∧m=(X - x).toNat,⟨_,_,rfl,Int.le_refl _,x1,rfl⟩,?_⟩
  rintro m δ ⟨x,rfl,x01,xX,rfl⟩
  walk_at "w"
  have fx:Fit x:=fitI (by omega)
  have fd:Fit d:=fitI (by omega)
  refine⟨⟨fx,fd⟩,?_⟩
  walk_at "w"
  refine⟨(by show 0 < c;omega),?_⟩
  walk_at "w"
  refine brn (fun h=>?_) (fun h=>?_)
  ·walk_at "w"
   have nX:x≠X:=fun e=>h (by rw [e];exact hX)
   exact⟨_,(by omega),x+1,rfl,by omega,by omega,rfl⟩
  ·have h:(x*d - 1) % c=0:=h
   walk_at "w"
   refine⟨⟨fx,fd⟩,?_⟩
   walk_at "w"
   refine⟨⟨by omega,by omega⟩,?_⟩
   walk_at "w"
   have e1:=emod_add_mul_ediv (x*d - 1) c
   rw [h,zero_add] at e1
   have xd1:1*2≤x*d:=Int.mul_le_mul (by omega) (by omega) (by omega) (by omega)
   have xd2:x*d≤144*205:=Int.mul_le_mul (by omega) (by omega) (by omega) (by omega)
   have q0:0≤(x*d - 1) / c:=Int.ediv_nonneg (by omega) (by omega)
   have q1:(x*d - 1) / c≤x*d - 1:=Int.ediv_le_self _ (by omega)
   have P16:(2:Nat) ^ 16=65536:=by decide
   refine q ⟨x,(x*d - 1) / c,c,d⟩ ?_ cn ⟨?_,?_,?_,?_⟩ _
   ·show x*d - (x*d - 1) / c*c=1
    rw [Int.mul_comm _ c,e1]
    omega
   ·show x.natAbs < 2 ^ 16;omega
   ·show ((x*d - 1) / c).natAbs < 2 ^ 16;omega
   ·show c.natAbs < 2 ^ 16;omega
   ·show d.natAbs < 2 ^ 16;omega
abbrev ap9:Stmt:=top 51
def aE8:Sp3:=fun δ Q _=>match δ with
 | [.d (.int c),.d (.int i)]=>∃ n:Nat,i=n∧1≤n∧n≤48∧∀ m:Mt,m.det=1→(n:Int)∣m.c→m.bd 60→∀ ob,Q (.d (mtQ m)) ob
 | _=>False
theorem scOfLevel:FnScope ["_law_cell","_law_n","_law_made","_law_number","_law_by","_law_some"] ["_law_cell","_law_n"] (aa2 ap9):=⟨rfl,rfl,rfl,by decide +kernel,rfl,by decide +kernel,by decide +kernel⟩
theorem bk9 (F:Fun K "_law_of_level" "_law_of_level" ap9 f fd)(T:Bt mg)(O_law_numbers:Own3 P w K mg base 2 "_law_numbers" ["_law_cell","_law_many","_law_most"] am2)(O_law_rest:Own3 P w K mg base 2 "_law_rest" ["_law_cell","_law_by"] aE6)(O_law_any_of_level:Own3 P w K mg base 2 "_law_any_of_level" ["_law_n","_law_number"] aQ3)(O_law_both:Own3 P w K mg base 2 "_law_both" ["_law_one","_law_other"] ba2) :
  FnOk P w K mg base (CX1 P w) 3 f fd ["_law_cell","_law_n"] (lsp K aE8):=by
 refine ok3 F scOfLevel (fun δ Q Z h=>av2 h) fun cdv A outer s H E hr=>?_
 have nd:=scOfLevel.nd
 refine⟨_,(aa5 (ab8 2 (by exact nd) rfl (Or.inl rfl) (D3.toE (ad1 (aa0 (ad1 (aa0 aa4 (aa0 aa4 aa3 Fr.aa7) Fr.aa7)) (aa0 (ad1 (aa0 aa4 (aa0 aa4 aa3 Fr.aa7) Fr.aa7)) aa3 Fr.ac6) Fr.ac6)))) (aa5 (af5 PassesOwn.leaving rfl (af4 (E3.toD (ab0 O_law_numbers Fr.aa6 hr rfl (aa0 (E3.toD (ab0 O_law_rest Fr.aa6 hr rfl (aa0 (dv 0) (aa0 aa4 aa3 Fr.aa7) Fr.aa1))) (aa0 (d_op ae1 af3 (dv 0) aa4) (aa0 aa4 aa3 Fr.aa7) Fr.ab7) Fr.ac2)))) (ab3 3 (by exact nd) rfl (Or.inl rfl)) (aa5 (ab8 4 (by exact nd) rfl (Or.inl rfl) (D3.toE (d_op ag6 ai6 (d_op ae1 af3 (d_op Fr.ag3 ai9 (dv 3) aa4) aa4) aa4))) (aa5 (ab8 5 (by exact nd) rfl (Or.inl rfl) (ae4 (aa0 (ad1 (aa0 (ad1 (aa0 aa4 (aa0 (dv 4) aa3 Fr.aa1) Fr.aa7)) (aa0 (ad1 (aa0 aa4 (aa0 aa4 aa3 Fr.aa7) Fr.aa7)) aa3 Fr.ac6) Fr.ac6)) (aa0 (ad1 (aa0 (ad1 (aa0 aa4 (aa0 aa4 aa3 Fr.aa7) Fr.aa7)) (aa0 (ad1 (aa0 (d_op Fr.ac1 ac9 (dv 1) (dv 4)) (aa0 aa4 aa3 Fr.aa7) Fr.ab7)) aa3 Fr.ac6) Fr.ac6)) (aa0 (ad1 (aa0 (ad1 (aa0 (ak3 aa4) (aa0 aa4 aa3 Fr.aa7) Fr.aw4)) (aa0 (ad1 (aa0 aa4 (aa0 (ak3 aa4) aa3 Fr.aw4) Fr.aa7)) aa3 Fr.ac6) Fr.ac6)) (aa0 (ad1 (aa0 (ad1 (aa0 aa4 (aa0 aa4 aa3 Fr.aa7) Fr.aa7)) (aa0 (ad1 (aa0 (d_op ag6 ai6 aa4 (dv 1)) (aa0 (d_op ag6 ai6 aa4 (dv 1)) aa3 Fr.ab7) Fr.ab7)) aa3 Fr.ac6) Fr.ac6)) aa3 Fr.ac6) Fr.ac6) Fr.ac6) Fr.ac6))) (aa5 (s_if (ae7 aJ9 r_gt (d_op ae1 af3 (dv 3) aa4) aa4 (ad5 _)) (aa9 (ab8 5 (by exact nd) rfl (Or.inl rfl) (ae4 (aa0 (E3.toD (ab0 O_law_any_of_level Fr.aa6 hr rfl (aa0 (dv 1) (aa0 (d_op Fr.ag3 ai9 (dv 3) aa4) aa3 Fr.ab7) Fr.aa1))) aa3 Fr.ac2)))) ah7) (aa9 (ab8 2 (by exact nd) rfl (Or.inl rfl) (ab0 O_law_both Fr.aa6 hr rfl (aa0 (dv 2) (aa0 (ad6 5 (d_op ae1 af3 (dv 3) (ag7 5 rfl T.len))) aa3) Fr.aa1)))))))) (aa9 (ac3 (af9 2))))),fun δ Q Z h=>?_⟩
 obtain⟨c,i,rfl,n,e,n1,n2,q⟩:=ar7 h
 subst e
 walk_at "w"
 refine⟨⟨by decide,by decide⟩,fun x=>?_⟩
 walk_at "w"
 refine⟨(by show (0:Int) < 4;decide),?_⟩
 walk_at "w"
 refine⟨⟨by omega,by omega⟩,⟨by decide,by decide⟩,fun ns hl hb ob=>?_⟩
 walk_at "w"
 refine ae0 (fun i δ=>∃ (M:Mt) (s3 s4 s5:Sl),δ=[.d (.int c),.d (.int (n:Nat)),.d (mtQ M),s3,s4,s5]∧M.det=1∧(n:Int)∣M.c∧M.bd (1+17*i)) ⟨⟨1,0,0,1⟩,_,_,_,rfl,rfl,⟨0,by simp⟩,by decide,by decide,by decide,by decide⟩ ?_ ?_
 ·rintro i z δ N hz ⟨M,s3,s4,s5,rfl,hd,hc,hb'⟩ hN
  have hi:i < ns.length:=by have:=(List.getElem?_eq_some_iff.mp hz).1;rwa [length_map] at this
  rw [getElem?_map,getElem?_eq_getElem hi] at hz
  cases hz
  obtain⟨v0,v1⟩:=hb _ (getElem_mem hi)
  generalize ns[i]=v at v0 v1
  have hi3:i≤2:=by omega
  have fin:∀ (k:Mt) s3 s4 s5,k.det=1→(n:Int)∣k.c→k.bd 16→N [.d (.int c),.d (.int (n:Nat)),.d (mtQ (M.mul k)),s3,s4,s5]:=fun k s3 s4 s5 kd kc kb=>hN _ ⟨M.mul k,s3,s4,s5,rfl,by rw [Mt.det_mul,hd,kd];rfl,by
   show (n:Int)∣M.c*k.a+M.d*k.c
   exact dvd_add (dvd_mul_of_dvd_left hc) (Int.dvd_mul_of_dvd_right kc),Mt.bd_mono (Mt.bd_mul hb' kb) (by omega)⟩
  have bM:M.bd 500:=Mt.bd_mono hb' (by omega)
  have b16:∀ k:Mt,k.bd 16→k.bd 500:=fun k h=>Mt.bd_mono h (by decide)
  walk_at "w"
  refine⟨⟨by decide,by decide⟩,?_⟩
  walk_at "w"
  refine⟨(by show (0:Int) < 19;decide),?_⟩
  walk_at "w"
  obtain⟨b,hbv⟩:∃ b:Int,v / 8 % 19 - 9=b:=⟨_,rfl⟩
  have hb1:-9≤b∧b≤9:=by omega
  have nb:((n:Int)*b).natAbs≤432:=by
   rw [natAbs_mul]
   exact mul_le_mul (show (n:Int).natAbs≤48 by omega) (show b.natAbs≤9 by omega)
  have P16:(2:Nat) ^ 16=65536:=by decide
  refine⟨⟨fitI (by omega),fitI (by omega)⟩,?_⟩
  walk_at "w"
  refine⟨(by show (0:Int) < 8;decide),?_⟩
  walk_at "w"
  refine brd (fun _=>?_) (fun _=>?_)
  ·walk_at "w"
   refine⟨⟨by decide,by decide⟩,?_⟩
   walk_at "w"
   refine⟨n,rfl,n1,n2,Int.ediv_nonneg v0 (by decide),fun k kd kc kb ob=>?_⟩
   walk_at "w"
   refine⟨(by show (0:Int) < 1;decide),?_⟩
   have e1:v % 1=0:=Int.emod_one v
   refine⟨mtQ k,by show atI [mtQ k] (v % 1)=_;rw [e1];rfl,?_⟩
   walk_at "w"
   refine⟨M,k,rfl,rfl,bM,b16 k kb,fun ob=>?_⟩
   exact fin k _ _ _ kd kc kb
  ·walk_at "w"
   refine⟨(by show (0:Int) < 4;decide),?_⟩
   obtain⟨k,hk,kd,kc,kb⟩:∃ k:Mt,atI [mtQ ⟨1,b,0,1⟩,mtQ ⟨1,0,n*b,1⟩,mtQ ⟨-1,0,0,-1⟩,mtQ ⟨1,1,0 - n,1 - n⟩] (v % 4)=some (mtQ k)∧k.det=1∧(n:Int)∣k.c∧k.bd 16:=by
    rcases (show v % 4=0∨v % 4=1∨v % 4=2∨v % 4=3 by omega) with e | e | e | e <;> rw [e]
    ·exact⟨_,rfl,by show 1*1 - b*0=(1:Int);omega,⟨0,by show (0:Int)=n*0;omega⟩,by show (1:Int).natAbs < _;omega,by show b.natAbs < _;omega,by show (0:Int).natAbs < _;omega,by show (1:Int).natAbs < _;omega⟩
    ·exact⟨_,rfl,by show 1*1 - 0*(n*b)=(1:Int);omega,⟨b,rfl⟩,by show (1:Int).natAbs < _;omega,by show (0:Int).natAbs < _;omega,by show ((n:Int)*b).natAbs < _;omega,by show (1:Int).natAbs < _;omega⟩
    ·exact⟨_,rfl,by decide,⟨0,by show (0:Int)=n*0;omega⟩,by show (-1:Int).natAbs < _;omega,by show (0:Int).natAbs < _;omega,by show (0:Int).natAbs < _;omega,by show (-1:Int).natAbs < _;omega⟩
    ·exact⟨_,rfl,by show 1*(1 - (n:Int)) - 1*(0 - n)=1;omega,⟨-1,by show 0 - (n:Int)=n*-1;omega⟩,by show (1:Int).natAbs < _;omega,by show (1:Int).natAbs < _;omega,by show (0 - (n:Int)).natAbs < _;omega,by show (1 - (n:Int)).natAbs < _;omega⟩
   rw [← hbv] at hk
   refine⟨mtQ k,hk,?_⟩
   walk_at "w"
   refine⟨M,k,rfl,rfl,bM,b16 k kb,fun ob=>?_⟩
   exact fin k _ _ _ kd kc kb
 ·rintro δ ⟨M,s3,s4,s5,rfl,hd,hc,hb'⟩
  walk_at "w"
  exact q M hd hc (Mt.bd_mono hb' (by rw [length_map];omega)) _
abbrev aH4:Stmt:=top 52
def ba3:Sp3:=fun δ Q _=>match δ with
 | [.d x,.d y]=>∃ (m:Mt) (p:Int×Int),x=mtQ m∧y=plD p∧m.det=1∧m.bd 60∧Drw p∧∀ p':Int×Int,p'=nzP (actP m p)→Plc p'→∀ ob,Q (.d (plD p')) ob
 | _=>False
theorem scLLed:FnScope ["_law_turning","_law_one","_law_a","_law_b","_law_c","_law_d"] ["_law_turning","_law_one"] (aa2 aH4):=⟨rfl,rfl,rfl,by decide +kernel,rfl,by decide +kernel,by decide +kernel⟩
theorem bN3 (F:Fun K "_law_led" "_law_led" aH4 f fd)(T:Bt mg)(O_law_lowest:Own3 P w K mg base 2 "_law_lowest" ["_law_top","_law_bottom"] au6):FnOk P w K mg base (CX1 P w) 3 f fd ["_law_turning","_law_one"] (lsp K ba3):=by
 refine ok3 F scLLed (fun δ Q Z h=>aF7 h) fun cdv A outer s H E hr=>?_
 have nd:=scLLed.nd
 refine⟨_,(aa5 (aq2 (dv 0) (ae8 (n:=2) rfl (ab6 (ae8 (n:=2) rfl (ab6 (ab3 2 (by exact nd) rfl (Or.inl rfl)) (ab6 (ab3 3 (by exact nd) rfl (Or.inl rfl)) ad9))) (ab6 (ae8 (n:=2) rfl (ab6 (ab3 4 (by exact nd) rfl (Or.inl rfl)) (ab6 (ab3 5 (by exact nd) rfl (Or.inl rfl)) ad9))) ad9)))) (aa9 (ac3 (ab0 O_law_lowest Fr.aa6 hr rfl (aa0 (d_op ac7 ad2 (d_op Fr.ac1 ac9 (dv 2) (ad3 (dv 1) aa4)) (d_op Fr.ac1 ac9 (dv 3) (ad3 (dv 1) aa4))) (aa0 (d_op ac7 ad2 (d_op Fr.ac1 ac9 (dv 4) (ad3 (dv 1) aa4)) (d_op Fr.ac1 ac9 (dv 5) (ad3 (dv 1) aa4))) aa3 Fr.ab7) Fr.ab7))))),fun δ Q Z h=>?_⟩
 obtain⟨x,y,rfl,m,p,e1,e2,hd,⟨a1,a2,a3,a4⟩,hp,q⟩:=az6 h
 subst e1 e2
 obtain⟨sp,b1,b2⟩:=hp
 walk_at "w"
 refine⟨_,rfl,⟨fitM a1,fitM b1⟩,?_⟩
 walk_at "w"
 refine⟨_,rfl,⟨fitM a2,fitM b2⟩,?_⟩
 walk_at "w"
 refine⟨_,rfl,⟨fitM a3,fitM b1⟩,?_⟩
 walk_at "w"
 refine⟨_,rfl,⟨fitM a4,fitM b2⟩,?_⟩
 walk_at "w"
 have t1:(actP m p).1.natAbs < 2 ^ 131:=Mt.bd_two (A:=60) (B:=70) a1 b1 a2 b2
 have t2:(actP m p).2.natAbs < 2 ^ 131:=Mt.bd_two (A:=60) (B:=70) a3 b1 a4 b2
 have le1:(2:Nat) ^ 131≤2 ^ 240:=by decide
 have le2:(2:Nat) ^ 131≤2 ^ 170:=by decide
 refine⟨lt_of_lt_of_le t1 le1,lt_of_lt_of_le t2 le1,fun p' h0 h1 ob=>?_⟩
 obtain⟨e,sp'⟩:=cb1 (br3 hd sp.gcd) h0 h1
 refine q p' e ⟨sp',?_,?_⟩ _
 ·rcases aG5 (actP m p) with z | z <;> rw [e,z]
  ·exact lt_of_lt_of_le t1 le2
  ·show (-(actP m p).1).natAbs < _
   rw [natAbs_neg]
   exact lt_of_lt_of_le t1 le2
 ·rcases aG5 (actP m p) with z | z <;> rw [e,z]
  ·exact lt_of_lt_of_le t2 le2
  ·show (-(actP m p).2).natAbs < _
   rw [natAbs_neg]
   exact lt_of_lt_of_le t2 le2
abbrev as6:Stmt:=top 54
def aJ8:Sp3:=fun δ Q _=>match δ with
 | [.d (.int c),.d y]=>∃ p:Int×Int,y=plD p∧Drw p∧∀ w:List (Int×Int),Adj w→w.head?=some p→w.length≤20→(∀ x∈w,Plc x)→∀ ob,Q (.own (.lst (plZ w))) ob
 | _=>False
theorem scWalkBy:FnScope ["_law_cell","_law_one","_law_line","_law_ahead","_law_made","_law_number","_law_goal"] ["_law_cell","_law_one"] (aa2 as6):=⟨rfl,rfl,rfl,by decide +kernel,rfl,by decide +kernel,by decide +kernel⟩
theorem bt7 (F:Fun K "_law_walk_by" "_law_walk_by" as6 f fd)(T:Bt mg)(O_law_way_to:Own3 P w K mg base 3 "_law_way_to" ["_law_one"] aQ2)(O_law_numbers:Own3 P w K mg base 3 "_law_numbers" ["_law_cell","_law_many","_law_most"] am2)(O_law_rest:Own3 P w K mg base 3 "_law_rest" ["_law_cell","_law_by"] aE6)(O_law_lowest:Own3 P w K mg base 3 "_law_lowest" ["_law_top","_law_bottom"] au6) :
  FnOk P w K mg base (CX1 P w) 4 f fd ["_law_cell","_law_one"] (lsp K aJ8):=by
 refine ok3 F scWalkBy (fun δ Q Z h=>bD5 h) fun cdv A outer s H E hr=>?_
 have nd:=scWalkBy.nd
 refine⟨_,(aa5 (ab8 2 (by exact nd) rfl (Or.inl rfl) (ab0 O_law_way_to Fr.aa6 hr rfl (aa0 (dv 1) aa3 Fr.aa1))) (aa5 (ab8 3 (by exact nd) rfl (Or.inl rfl) (D3.toE (aK8 (E3.toD (ae4 (aa0 (ad1 (aa0 aa4 (aa0 aa4 aa3 Fr.aa7) Fr.aa7)) (aa0 (ad6 2 (d_op ag6 ai6 (ag7 2 rfl T.len) aa4)) aa3) Fr.ac6))) (aV4 aQ5 bn8 rfl T.int boot_int (aa0 (aK6 aJ9 r_gt (ag7 2 rfl T.len) aa4 (ad5 _)) aa3 Fr.aW0))))) (aa5 (ab8 4 (by exact nd) rfl (Or.inl rfl) (ae4 (aa0 (dv 1) aa3 Fr.aa1))) (aa5 (af5 PassesOwn.leaving rfl (af4 (E3.toD (ab0 O_law_numbers Fr.aa6 hr rfl (aa0 (E3.toD (ab0 O_law_rest Fr.aa6 hr rfl (aa0 (dv 0) (aa0 aa4 aa3 Fr.aa7) Fr.aa1))) (aa0 (d_op ae1 af3 (dv 0) aa4) (aa0 aa4 aa3 Fr.aa7) Fr.ab7) Fr.ac2)))) (ab3 5 (by exact nd) rfl (Or.inl rfl)) (aa5 (ab8 6 (by exact nd) rfl (Or.inl rfl) (ab0 O_law_lowest Fr.aa6 hr rfl (aa0 (d_op ac7 ad2 (ad3 (dv 3) aa4) (d_op Fr.ac1 ac9 (d_op ag6 ai6 (dv 5) aa4) (ad3 (ad6 4 (ak3 aa4)) aa4))) (aa0 (d_op ac7 ad2 (ad3 (dv 3) aa4) (d_op Fr.ac1 ac9 (d_op ag6 ai6 (dv 5) aa4) (ad3 (ad6 4 (ak3 aa4)) aa4))) aa3 Fr.ab7) Fr.ab7))) (aa5 (ab8 3 (by exact nd) rfl (Or.inl rfl) (D3.toE (ad6 4 (ak3 aa4)))) (aa9 (ag4 4 (dv 6)))))) (aa9 (ac3 (af9 4))))))),fun δ Q Z h=>?_⟩
 obtain⟨c,y,rfl,p,e,hp,q⟩:=bi8 h
 subst e
 walk_at "w"
 refine⟨p,rfl,hp.plc,fun ob=>?_⟩
 have P71:(2:Nat) ^ 71=2361183241434822606848:=by decide
 have P70:(2:Nat) ^ 70=1180591620717411303424:=by decide
 have lp:(plZ (stps p)).length=(stps p).length:=length_map _
 obtain⟨v,o,hv,ho,hN,h1,h2⟩:∃ v o:Int×Int,atI (plZ (stps p)) (((plZ (stps p)).length:Int) - 2)=some (plD v)∧o=(if 1 < (stps p).length then v else (0,1))∧NextTo p o∧o.1.natAbs≤2 ^ 71∧o.2.natAbs≤2 ^ 71:=by
  rcases hp.1 with ⟨z1,z2⟩ | ⟨z,co⟩
  ·have ep:p=(1,0):=Prod.ext z1 z2
   have es:stps p=[(1,0)]:=by
    unfold stps
    rw [z2,ag1 (Int.le_refl 0)]
    rfl
   rw [es]
   refine⟨(1,0),(0,1),rfl,by rw [if_neg (by decide)],?_,by decide,by decide⟩
   rw [ep]
   exact .inl rfl
  ·obtain⟨G,s,e,nx,s0,s1⟩:=bB4 hp.plc z
   have b:=bN0 nx s0 s1 z
   obtain⟨_,b1,b2⟩:=hp
   refine⟨s,s,?_,by rw [if_pos (by rw [e];simp)],nx.symm,by omega,by omega⟩
   rw [lp,e]
   have e2:(((G++[s,p]).length:Nat):Int) - 2=((G.length:Nat):Int):=by rw [length_append];show ((G.length+2:Nat):Int) - 2=_;omega
   rw [e2]
   exact ag5 (by unfold plZ;rw [map_append,getElem?_append_right (by simp)];simp)
 walk_at "w"
 refine⟨_,hv,?_⟩
 walk_at "w"
 obtain⟨u,hu,eu⟩:∃ u,atI [D.tup [.int 0,.int 1],plD v] (if decide ((1:Int) < ((plZ (stps p)).length:Nat))=true then (1:Int) else 0)=some u∧u=plD o:=by
  rw [ho,lp]
  by_cases c:1 < (stps p).length
  ·rw [if_pos (decide_eq_true (by omega)),if_pos c]
   exact⟨_,rfl,rfl⟩
  ·rw [if_neg (by rw [decide_eq_false (by omega)];decide),if_neg c]
   exact⟨_,rfl,rfl⟩
 subst eu
 refine⟨_,hu,?_⟩
 walk_at "w"
 refine⟨⟨by decide,by decide⟩,fun x=>?_⟩
 walk_at "w"
 refine⟨(by show (0:Int) < 13;decide),?_⟩
 walk_at "w"
 refine⟨⟨by omega,by omega⟩,⟨by decide,by decide⟩,fun ns hl hb ob=>?_⟩
 walk_at "w"
 have hb1:=hp.2.1
 have hb2:=hp.2.2
 refine ae0 (fun i δ=>∃ (G:List (Int×Int)) (y o:Int×Int) (s5 s6:Sl),δ=[.d (.int c),.d (plD p),.own (.lst (plZ (stps p))),.d (plD o),.own (.lst (plZ (G++[y]))),s5,s6]∧Adj (G++[y])∧(G++[y]).head?=some p∧NextTo y o∧(∀ z∈G++[y],Plc z)∧G.length=i∧o.1.natAbs < 2 ^ (72+3*i)∧o.2.natAbs < 2 ^ (72+3*i)∧y.1.natAbs < 2 ^ (72+3*i)∧y.2.natAbs < 2 ^ (72+3*i))
  ⟨[],p,o,_,_,rfl,trivial,rfl,hN,fun z hz=>by cases mem_singleton.mp hz;exact hp.plc,rfl,?_,?_,?_,?_⟩ ?_ ?_
 ·show _ < 2 ^ 72
  omega
 ·show _ < 2 ^ 72
  omega
 ·show _ < 2 ^ 72
  omega
 ·show _ < 2 ^ 72
  omega
 ·rintro i z δ N hz ⟨G,y,o,s5,s6,rfl,ga,gh,gn,gp,gl,o1,o2,y1,y2⟩ hNx
  have hi:i < ns.length:=by have:=(List.getElem?_eq_some_iff.mp hz).1;rwa [length_map] at this
  rw [getElem?_map,getElem?_eq_getElem hi] at hz
  cases hz
  obtain⟨v0,v1⟩:=hb _ (getElem_mem hi)
  generalize ns[i]=k at v0 v1
  have hi2:i≤11:=by omega
  obtain⟨⟨bt,bb⟩,fin⟩:=bB6 (m:=k - 3) gn (show 72+3*i≤160 by omega) o1 o2 y1 y2 (by omega)
  have la:atI (plZ (G++[y])) (-1)=some (plD y):=by unfold plZ;rw [map_append];exact ay4 _ _
  have P240:(2:Nat) ^ (72+3*i+3)≤2 ^ 240:=pow_le_pow_right (by decide) (by omega)
  have gle:(plZ (G++[y])).length≤1000000:=by unfold plZ;rw [length_map,length_append,gl];show i+1≤_;omega
  have f3:Fit (k - 3):=fitI (by omega)
  walk_at "w"
  refine⟨_,rfl,?_⟩
  walk_at "w"
  refine⟨_,la,?_⟩
  walk_at "w"
  refine⟨_,rfl,⟨f3,fitM y1 (by omega)⟩,?_⟩
  walk_at "w"
  refine⟨_,rfl,?_⟩
  walk_at "w"
  refine⟨_,la,?_⟩
  walk_at "w"
  refine⟨_,rfl,⟨f3,fitM y2 (by omega)⟩,?_⟩
  walk_at "w"
  refine⟨lt_of_lt_of_le bt P240,lt_of_lt_of_le bb P240,fun p' e0 e1 ob=>?_⟩
  obtain⟨f1,f2,f3,f4⟩:=fin p' e0 e1
  walk_at "w"
  refine⟨_,la,?_⟩
  walk_at "w"
  refine⟨gle,?_⟩
  walk_at "w"
  have ew:∀ x:Nat,x < 2 ^ (72+3*i+3)→x < 2 ^ (72+3*(i+1)):=fun x hx=>by rw [show 72+3*(i+1)=72+3*i+3 by omega];exact hx
  refine hNx _ ⟨G++[y],p',y,.d (.int k),.d (plD p'),?_,ba1 ga f1,by rw [List.head?_append,gh];rfl,f1.symm,?_,by rw [length_append,gl];rfl,?_,?_,ew _ f3,ew _ f4⟩
  ·unfold plZ
   rw [map_append (l₁:=G++[y])]
   rfl
  ·intro z hz
   rcases mem_append.mp hz with hz | hz
   ·exact gp z hz
   ·cases mem_singleton.mp hz
    exact f2
  ·exact lt_of_lt_of_le y1 (pow_le_pow_right (by decide) (by omega))
  ·exact lt_of_lt_of_le y2 (pow_le_pow_right (by decide) (by omega))
 ·rintro δ ⟨G,y,o,s5,s6,rfl,ga,gh,gn,gp,gl,o1,o2,y1,y2⟩
  walk_at "w"
  refine q (G++[y]) ga gh ?_ gp _
  rw [length_append,gl,length_map]
  show ns.length+1≤20
  omega
end
end
noncomputable section
theorem bt8 {n:Nat}:∀ {w:List (Int×Int)} {i:Nat} {x y:Int×Int},w[i]?=some x→w[i+1]?=some y→(rdN n w)[i]?=some (symN n x y)
 | [],_,_,_,h,_=>by simp at h
 | [_],0,_,_,_,h=>by simp at h
 | [_],i+1,_,_,h,_=>by simp at h
 | a::b::r,0,x,y,h1,h2=>by
  have e1:a=x:=by simpa using h1
  have e2:b=y:=by simpa using h2
  subst e1 e2
  rfl
 | a::b::r,i+1,x,y,h1,h2=>bt8 (w:=b::r) (i:=i) (by simpa using h1) (by simpa using h2)
theorem ba4 {w:List (Int×Int)}{i:Nat}{x:Int×Int}(h:w[i]?=some x):(plZ w)[i]?=some (plD x):=by
 unfold plZ
 rw [getElem?_map,h]
 rfl
abbrev sLaw:Stmt:=top 55
section
variable {P:Program}{w:World}{K:PySem.W.Frag}{mg:Str→Option Value}{base:Heap}{f:Addr}{fd:FuncData}
theorem scLaw:FnScope ["_law_script","_law_n","_law_room","_law_size","_law_one","_law_other","_law_turning","_law_walk","_law_rows","_law_k","_law_sign"] ["_law_script"] (aa2 sLaw):=⟨rfl,rfl,rfl,by decide +kernel,rfl,by decide +kernel,by decide +kernel⟩
theorem bW1 (F:Fun K "law" "law" sLaw f fd)(T:Bt mg){C CR gN gS:Addr}(TLevel:LevC K C)(TRoom:RoomC K CR)(MLevel:MkOk P w K mg base 6 "Level" C ["self","n"] (aP1 C gN))(MRoom:MkOk P w K mg base 6 "Room" CR ["self","level"] (aP9 C CR))
  (MRoom_kept:MtOk P w K mg base 7 CR "kept" ["self"] (aQ0 C CR)) (MRoom_symbol_row:MtOk P w K mg base 7 CR "symbol_row" ["self","u","v"] (aE4 C CR gS)) (MRoom_road_row:MtOk P w K mg base 7 CR "road_row" ["self","one","other"] (aB0 C CR))
  (O_law_cell_at:Own3 P w K mg base 7 "_law_cell_at" ["_law_script","_law_k"] aZ9) (O_law_numbers:Own3 P w K mg base 7 "_law_numbers" ["_law_cell","_law_many","_law_most"] am2) (O_law_place_by:Own3 P w K mg base 7 "_law_place_by" ["_law_cell"] aE7)
  (O_law_of_level:Own3 P w K mg base 7 "_law_of_level" ["_law_cell","_law_n"] aE8) (O_law_led:Own3 P w K mg base 7 "_law_led" ["_law_turning","_law_one"] ba3) (O_law_walk_by:Own3 P w K mg base 7 "_law_walk_by" ["_law_cell","_law_one"] aJ8) (O_law_sum:Own3 P w K mg base 7 "_law_sum" ["_law_rows","_law_many"] bk8) :
  FnOk P w K mg base (CX1 P w) 8 f fd ["_law_script"] (lsp K bS6):=by
 refine ok3 F scLaw (fun δ Q Z h=>ln_s h) fun cdv A outer s H E hr=>?_
 have nd:=scLaw.nd
 have hu:=ai3 hr
 refine⟨_,(aa5 (ab8 1 (by exact nd) rfl (Or.inl rfl) (D3.toE (d_op ac7 ad2 aa4 (aK8 (E3.toD (ab0 O_law_numbers Fr.aa6 hr rfl (aa0 (E3.toD (ab0 O_law_cell_at Fr.aa6 hr rfl (aa0 (dv 0) (aa0 aa4 aa3 Fr.aa7) Fr.aa1))) (aa0 aa4 (aa0 aa4 aa3 Fr.aa7) Fr.aa7) Fr.ac2))) aa4)))) (aa5 (ab8 2 (by exact nd) rfl (Or.inl rfl) (bo2 MRoom Fr.aa6 hr rfl (aa0 (E3.toD (bo2 MLevel Fr.aa6 hr rfl (aa0 (dv 1) aa3 Fr.aa1))) aa3 Fr.ac2))) (aa5 (ab8 3 (by exact nd) rfl (Or.inl rfl) (D3.toE (am7 ai8 aK9 rfl T.len PySem.boot_len (aa0 (E3.toD (aw5 MRoom_kept Fr.aa6 hr (dv 2))) aa3 Fr.ac2)))) (aa5 (ab8 4 (by exact nd) rfl (Or.inl rfl) (ab0 O_law_place_by Fr.aa6 hr rfl (aa0 (E3.toD (ab0 O_law_cell_at Fr.aa6 hr rfl (aa0 (dv 0) (aa0 aa4 aa3 Fr.aa7) Fr.aa1))) aa3 Fr.ac2))) (aa5 (ab8 5 (by exact nd) rfl (Or.inl rfl) (ab0 O_law_place_by Fr.aa6 hr rfl (aa0 (E3.toD (ab0 O_law_cell_at Fr.aa6 hr rfl (aa0 (dv 0) (aa0 aa4 aa3 Fr.aa7) Fr.aa1))) aa3 Fr.ac2))) (aa5 (ab8 6 (by exact nd) rfl (Or.inl rfl) (ab0 O_law_of_level Fr.aa6 hr rfl (aa0 (E3.toD (ab0 O_law_cell_at Fr.aa6 hr rfl (aa0 (dv 0) (aa0 aa4 aa3 Fr.aa7) Fr.aa1))) (aa0 (dv 1) aa3 Fr.aa1) Fr.ac2))) (aa5 (s_if (ae7 Fr.bQ2 (ca5 hr) (E3.toD (aj0 MRoom_road_row Fr.aa6 hr (dv 2) (aa0 (E3.toD (ab0 O_law_led Fr.aa6 hr rfl (aa0 (dv 6) (aa0 (dv 4) aa3 Fr.aa1) Fr.aa1))) (aa0 (E3.toD (ab0 O_law_led Fr.aa6 hr rfl (aa0 (dv 6) (aa0 (dv 5) aa3 Fr.aa1) Fr.aa1))) aa3 Fr.ac2) Fr.ac2))) (E3.toD (aj0 MRoom_road_row Fr.aa6 hr (dv 2) (aa0 (dv 4) (aa0 (dv 5) aa3 Fr.aa1) Fr.aa1))) (ad5 _)) (aa9 (ac3 (D3.toE d_bl))) ah7) (aa5 (ab8 7 (by exact nd) rfl (Or.inl rfl) (ab0 O_law_walk_by Fr.aa6 hr rfl (aa0 (E3.toD (ab0 O_law_cell_at Fr.aa6 hr rfl (aa0 (dv 0) (aa0 aa4 aa3 Fr.aa7) Fr.aa1))) (aa0 (dv 4) aa3 Fr.aa1) Fr.ac2))) (aa5 (ab8 8 (by exact nd) rfl (Or.inl rfl) (ae4 aa3)) (aa5 (af5 PassesOwn.leaving rfl (am8 rfl T.range (aa0 (d_op ag6 ai6 (ag7 7 rfl T.len) aa4) aa3 Fr.ab7)) (ab3 9 (by exact nd) rfl (Or.inl rfl)) (aa5 (ab8 10 (by exact nd) rfl (Or.inl rfl) (D3.toE (d_op ag6 ai6 (d_op Fr.ac1 ac9 (ad3 (ad6 7 (d_op ac7 ad2 (dv 9) aa4)) aa4) (ad3 (ad6 7 (dv 9)) aa4)) (d_op Fr.ac1 ac9 (ad3 (ad6 7 (d_op ac7 ad2 (dv 9) aa4)) aa4) (ad3 (ad6 7 (dv 9)) aa4))))) (aa9 (ag4 8 (E3.toD (aj0 MRoom_symbol_row Fr.aa6 hr (dv 2) (aa0 (ad3 (ad6 7 (d_op ac7 ad2 (dv 9) aa4)) aa4) (aa0 (d_op Fr.ac1 ac9 (dv 10) (ad3 (ad6 7 (dv 9)) aa4)) aa3 Fr.ab7)))))))) (aa9 (ac3 (D3.toE (aK6 Fr.bQ1 (ca4 hr) (E3.toD (ab0 O_law_sum Fr.aa6 hr rfl (aa0 (dv 8) (aa0 (dv 3) aa3 Fr.aa1) Fr.aa1))) (E3.toD (aj0 MRoom_road_row Fr.aa6 hr (dv 2) (aa0 (ad6 7 aa4) (aa0 (ad6 7 (ak3 aa4)) aa3)))) (ad5 _))))))))))))))),fun δ Q Z h=>?_⟩
 obtain⟨ns,rfl,hlen,q⟩:=iv_s h
 walk_at "w"
 refine⟨⟨by decide,by decide⟩,fun x=>?_⟩
 walk_at "w"
 refine⟨⟨by decide,by decide⟩,⟨by decide,by decide⟩,fun ns0 hl0 hb0 ob=>?_⟩
 match ns0,hl0,hb0 with
 | [v],_,hb0 =>
  obtain⟨v0,v1⟩:=hb0 v mem_cons_self
  walk_at "w"
  refine⟨_,rfl,?_⟩
  walk_at "w"
  refine⟨rfl,rfl,fun n e n1 n2 kvs hkv=>?_,fun z=>absurd z (by show ¬ ((decide ((1:Int)≤1+v) && decide (1+v≤48))=false);simp;omega)⟩
  have hL:ai7 C n (.obj C (levF n kvs)):=⟨kvs,rfl,hkv,n1,n2⟩
  have hR:ax5 C CR n (.obj CR (roomF n (.obj C (levF n kvs)))):=⟨_,hL,rfl⟩
  walk_at "w"
  refine⟨rfl,n,hL,?_⟩
  walk_at "w"
  refine⟨⟨rfl,rfl⟩,n,hR,fun ob=>?_⟩
  have Kp:=as0 n1 n2
  have lk:kN n≤40:=Kp.few
  have lI:(aa8 (kpT n)).length=kN n:=length_map _
  generalize hsz:(aa8 (kpT n)).length=sz at lI
  walk_at "w"
  rw [hsz]
  subst lI
  have cR:∀ g,az5 (.lst ((rowV n g).map D.int)):=fun g=>bp1 (f:=0) (fun x hx=>by
   obtain⟨i,_,rfl⟩:=mem_map.mp hx
   exact bJ0 i) (by decide)
  have lr:∀ g:Nat→Int,(rowV n g).length=kN n:=fun g=>by unfold rowV;rw [length_map,length_range]
  refine⟨⟨by decide,by decide⟩,fun x1=>?_⟩
  walk_at "w"
  intro p hp ob1
  walk_at "w"
  refine⟨⟨by decide,by decide⟩,fun x2=>?_⟩
  walk_at "w"
  intro p' hp' ob2
  walk_at "w"
  refine⟨⟨by decide,by decide⟩,fun x3=>?_⟩
  walk_at "w"
  refine⟨n,D.int.inj e,n1,n2,fun M hd hc hb ob3=>?_⟩
  walk_at "w"
  refine⟨⟨rfl,rfl⟩,M,p,rfl,rfl,hd,hb,hp,fun r er hr' ob4=>?_⟩
  walk_at "w"
  refine⟨M,p',rfl,rfl,hd,hb,hp',fun r' er' hr2 ob5=>?_⟩
  walk_at "w"
  refine⟨n,r,r',hR,rfl,rfl,hr',hr2,fun ob=>?_⟩
  have eA:ad4 n (wayP r r')=ad4 n (wayP p p'):=funext fun j=>bz0 n1 n2 hd hc j hp.1 hp'.1 hr'.spot hr2.spot er er'
  rw [eA]
  walk_at "w"
  refine⟨⟨rfl,rfl⟩,n,p,p',hR,rfl,rfl,hp.plc,hp'.plc,fun ob=>?_⟩
  refine⟨⟨cR _,cR _⟩,true,eqv_refl (cR _),?_⟩
  walk_at "w"
  refine⟨⟨by decide,by decide⟩,fun x4=>?_⟩
  walk_at "w"
  refine⟨p,rfl,hp,fun W wa wh wl wp ob6=>?_⟩
  have w1:1≤W.length:=by
   cases W with
   | nil=>cases wh
   | cons a r=>exact Nat.succ_le_succ (zero_le _)
  have lW:(plZ W).length=W.length:=length_map _
  have lS:(rdN n W).length=W.length - 1:=aO6 n W
  have f17:∀ k:Int,k.natAbs < 2 ^ 170→Fit k:=fun k h=>lt_of_lt_of_le h (pow_le_pow_right (by decide) (by decide))
  walk_at "w"
  refine⟨⟨by omega,by omega⟩,?_⟩
  refine ar6 (fun i δ=>∃ (s9 s10:Sl),δ=[.d (.scr ns),.d (.int (1+v)),.d (.obj CR (roomF n (.obj C (levF n kvs)))),.d (.int (kN n:Nat)),.d (plD p),.d (plD p'),.d (mtQ M),.own (.lst (plZ W)),.own (.lst ((((rdN n W).take i).map (rE n)).map fun g=>lstZ (rowV n g))),s9,s10]) ⟨_,_,rfl⟩ ?_ ?_
  ·rintro i δ N hi ⟨s9,s10,rfl⟩ hN
   have hi:i < W.length - 1:=by omega
   rw [zero_add]
   have i0:i < W.length:=by omega
   have i1:i+1 < W.length:=by omega
   have g0:=getElem?_eq_getElem i0
   have g1:=getElem?_eq_getElem i1
   have P0:=wp _ (getElem_mem i0)
   have P1:=wp _ (getElem_mem i1)
   generalize W[i]=a at g0 P0
   generalize W[i+1]=b at g1 P1
   have hx:NextTo a b:=wa.at g0 g1
   have rs:=bt8 (n:=n) g0 g1
   have a0:=ag5 (ba4 g0)
   have a1:atI (plZ W) ((i:Int)+1)=some (plD b):=ag5 (j:=i+1) (ba4 g1)
   have es:b.1*a.2 - b.2*a.1=crs b a:=by unfold crs;rw [Int.mul_comm b.2 a.1]
   obtain⟨sa,sl⟩:=ah3 n1 n2 hx
   have fs:Fit (b.1*a.2 - b.2*a.1):=by
    rw [es]
    rcases aj8 hx with e | e <;> rw [e] <;> exact fitI (by decide)
   walk_at "w"
   refine⟨_,a1,?_⟩
   walk_at "w"
   refine⟨_,rfl,_,a0,?_⟩
   walk_at "w"
   refine⟨_,rfl,⟨f17 _ P1.b1,f17 _ P0.b2⟩,?_⟩
   walk_at "w"
   refine⟨_,a1,?_⟩
   walk_at "w"
   refine⟨_,rfl,_,a0,?_⟩
   walk_at "w"
   refine⟨_,rfl,⟨f17 _ P1.b2,f17 _ P0.b1⟩,?_⟩
   walk_at "w"
   refine⟨⟨rfl,rfl⟩,_,a1,?_⟩
   walk_at "w"
   refine⟨_,rfl,_,a0,?_⟩
   walk_at "w"
   refine⟨_,rfl,⟨fs,f17 _ P0.b2⟩,?_⟩
   walk_at "w"
   refine⟨n,hR,fun i' hi' hil ob=>?_,fun z=>?_⟩
   rotate_left
   ·have z:ac0 n (syms n) (rsT n b.2 ((b.1*a.2 - b.2*a.1)*a.2))=none:=z
    rw [es,sa] at z
    cases z
   have hi':ac0 n (syms n) (rsT n b.2 ((b.1*a.2 - b.2*a.1)*a.2))=some i':=hi'
   rw [es,sa] at hi'
   cases hi'
   walk_at "w"
   refine⟨by rw [length_map,length_map,length_take];omega,?_⟩
   walk_at "w"
   refine hN _ ⟨.d (.int (i:Nat)),.d (.int (b.1*a.2 - b.2*a.1)),?_⟩
   rw [List.take_succ,rs,map_append,map_append]
   rfl
  ·rintro δ ⟨s9,s10,rfl⟩
   obtain⟨G,y,rfl⟩:∃ G y,W=G++[y]:=by
    rcases List.eq_nil_or_concat W with z | ⟨G,y,z⟩
    ·rw [z] at w1
     exact absurd w1 (by decide)
    ·exact⟨G,y,by rw [z,List.concat_eq_append]⟩
   have Py:=wp y (by simp)
   have hlast:atI (plZ (G++[y])) (-1)=some (plD y):=by unfold plZ;rw [map_append];exact ay4 _ _
   have hfirst:atI (plZ (G++[y])) 0=some (plD p):=ag5 (j:=0) (ba4 (by rw [← List.head?_eq_getElem?];exact wh))
   have eV:ad4 n (G++[y])=ad4 n (wayP p y):=funext fun j=>by
    rw [aS2 n1 n2 j hp.1 Py.spot]
    exact aA2 n1 n2 j _ _ _ wa (fun z hz=>by
     rcases (wp z hz).spot with h | h
     ·exact .inl h
     ·exact .inr h.1) wh (by simp)
   walk_at "w"
   refine⟨n,(rdN n (G++[y])).map (rE n),by rw [List.take_of_length_le (by omega)],rfl,by omega,fun ob=>?_⟩
   have ed:(fun j=>(((rdN n (G++[y])).map (rE n)).map fun g=>g j).sum)=ad4 n (G++[y]):=by
    funext j
    unfold ad4 sumI
    rw [map_map]
    rfl
   rw [ed,eV]
   walk_at "w"
   refine⟨⟨rfl,rfl⟩,_,hfirst,?_⟩
   walk_at "w"
   refine⟨_,hlast,?_⟩
   walk_at "w"
   refine⟨n,p,y,hR,rfl,rfl,hp.plc,Py,fun ob=>?_⟩
   refine⟨⟨cR _,cR _⟩,true,eqv_refl (cR _),?_⟩
   exact q _
end
end
theorem all_mk {l:PySem.W.OpenLaw}{w:World}{K:PySem.W.Frag}{h:Heap}{mg:Str→Option Value}{fa f1 f2 f3 f4 f5 f6 f7 f8 f9 f10 f11 f12 f13 f14 f15 f16 f17 f18 f19 f20 f21 f22 f23 f24 f25 f26 f27 f28 f29 f30 f31 f32 f33 f34 f35 f36 f37 f38 f39 f40 f41 f42 f43 f44 f45 f46 f47 f48 f49 f50 f51:Addr}{od1 an1 od2 an2 od3 an3 od4 an4 od5 an5 od6 an6 od7 an7 od8 an8 od9 an9 od10 an10 od11 an11 od12 an12 od13 an13 od14 an14 od15 an15 od16 an16 od17 an17 od18 an18 od19 an19 od20 an20 od21 an21 od22 an22 od23 an23 od24 an24 od25 an25 od26 an26 od27 an27 od28 an28 od29 an29 od30 an30 od31 an31 od32 an32 od33 an33 od34 an34 od35 an35 od36 an36 od37 an37 od38 an38 od39 an39 od40 an40 od41 an41 od42 an42 od43 an43 od44 an44 od45 an45 od46 an46 od47 an47 od48 an48 od49 an49 od50 an50 od51 an51:Option Addr}{sl1 sl2 sl3 sl4 sl5 sl6 sl7 sl8 sl9 sl10 sl11 sl12 sl13 sl14 sl15 sl16 sl17 sl18 sl19 sl20 sl21 sl22 sl23 sl24 sl25 sl26 sl27 sl28 sl29 sl30 sl31 sl32 sl33 sl34 sl35 sl36 sl37 sl38 sl39 sl40 sl41 sl42 sl43 sl44 sl45 sl46 sl47 sl48 sl49 sl50 sl51:Array (Option Value)}{oc1 kV1 dc1 pm1 cd1 ct1 oc2 kV2 dc2 pm2 cd2 ct2 oc3 kV3 dc3 pm3 cd3 ct3 oc4 kV4 dc4 pm4 cd4 ct4 oc5 kV5 dc5 pm5 cd5 ct5 oc6 kV6 dc6 pm6 cd6 ct6 oc7 kV7 dc7 pm7 cd7 ct7 oc8 kV8 dc8 pm8 cd8 ct8 oc9 kV9 dc9 pm9 cd9 ct9 oc10 kV10 dc10 pm10 cd10 ct10 oc11 kV11 dc11 pm11 cd11 ct11 oc12 kV12 dc12 pm12 cd12 ct12 oc13 kV13 dc13 pm13 cd13 ct13 oc14 kV14 dc14 pm14 cd14 ct14 oc15 kV15 dc15 pm15 cd15 ct15 oc16 kV16 dc16 pm16 cd16 ct16 oc17 kV17 dc17 pm17 cd17 ct17 oc18 kV18 dc18 pm18 cd18 ct18 oc19 kV19 dc19 pm19 cd19 ct19 oc20 kV20 dc20 pm20 cd20 ct20 oc21 kV21 dc21 pm21 cd21 ct21 oc22 kV22 dc22 pm22 cd22 ct22 oc23 kV23 dc23 pm23 cd23 ct23 oc24 kV24 dc24 pm24 cd24 ct24 oc25 kV25 dc25 pm25 cd25 ct25 oc26 kV26 dc26 pm26 cd26 ct26 oc27 kV27 dc27 pm27 cd27 ct27 oc28 kV28 dc28 pm28 cd28 ct28 oc29 kV29 dc29 pm29 cd29 ct29 oc30 kV30 dc30 pm30 cd30 ct30 oc31 kV31 dc31 pm31 cd31 ct31 oc32 kV32 dc32 pm32 cd32 ct32 oc33 kV33 dc33 pm33 cd33 ct33 oc34 kV34 dc34 pm34 cd34 ct34 oc35 kV35 dc35 pm35 cd35 ct35 oc36 kV36 dc36 pm36 cd36 ct36 oc37 kV37 dc37 pm37 cd37 ct37 oc38 kV38 dc38 pm38 cd38 ct38 oc39 kV39 dc39 pm39 cd39 ct39 oc40 kV40 dc40 pm40 cd40 ct40 oc41 kV41 dc41 pm41 cd41 ct41 oc42 kV42 dc42 pm42 cd42 ct42 oc43 kV43 dc43 pm43 cd43 ct43 oc44 kV44 dc44 pm44 cd44 ct44 oc45 kV45 dc45 pm45 cd45 ct45 oc46 kV46 dc46 pm46 cd46 ct46 oc47 kV47 dc47 pm47 cd47 ct47 oc48 kV48 dc48 pm48 cd48 ct48 oc49 kV49 dc49 pm49 cd49 ct49 oc50 kV50 dc50 pm50 cd50 ct50 oc51 kV51 dc51 pm51 cd51 ct51:Value}{C1 C2:Addr}{gN gS:Addr}{t_LAST_LEVEL:Tok}{fB:Addr}{odB:Option Addr}{tB1 tB2:Tok}{nB:Nat}{slB:Array (Option Value)}(X:K.In h)(G:h.Ns mainGlobals mg)(hfa:mg "law"=some (.ref fa))
  (aCC1:nsIn K mainGlobals "Level"=some (some (.ref C1)))
  (pgC1:plainGet K C1 Str.empty=true)
  (hdC1:hasDictIn K C1=true)
  (poC1:plainOver K C1=true)
  (saC1:findIn K (.ref C1) "__setattr__"=some (some (.builtin "object.__setattr__")))
  (mkC1:makesIn K C1=true)
  (kcC1:keepIn K (.ref C1)=true)
  (nC1_modulus:findIn K (.ref C1) "modulus"=some none)
  (nC1_all_symbols:findIn K (.ref C1) "all_symbols"=some none)
  (nC1_pair_numbers:findIn K (.ref C1) "pair_numbers"=some none)
  (aCC2:nsIn K mainGlobals "Room"=some (some (.ref C2)))
  (pgC2:plainGet K C2 Str.empty=true)
  (hdC2:hasDictIn K C2=true)
  (poC2:plainOver K C2=true)
  (saC2:findIn K (.ref C2) "__setattr__"=some (some (.builtin "object.__setattr__")))
  (mkC2:makesIn K C2=true)
  (kcC2:keepIn K (.ref C2)=true)
  (nC2_own_level:findIn K (.ref C2) "own_level"=some none)
  (nC2_kept_numbers:findIn K (.ref C2) "kept_numbers"=some none)
  (nC2_settled_numbers:findIn K (.ref C2) "settled_numbers"=some none)
  (nC2_symbol_rows:findIn K (.ref C2) "symbol_rows"=some none)
  (a1:nsIn K mainGlobals "is_whole"=some (some (.ref f1)))
  (l1:K.lookup f1=some ⟨oc1,od1,.func (fnOf "is_whole" "is_whole" (ab4 as2) (ab1 as2) (aa2 as2) .none kV1 dc1 pm1 an1 cd1 ct1),sl1⟩)
  (c1:codeIn K cd1 "is_whole"=true)
  (k1:keepIn K (.ref f1)=true)
  (a2:nsIn K mainGlobals "is_level"=some (some (.ref f2)))
  (l2:K.lookup f2=some ⟨oc2,od2,.func (fnOf "is_level" "is_level" (ab4 ao4) (ab1 ao4) (aa2 ao4) .none kV2 dc2 pm2 an2 cd2 ct2),sl2⟩)
  (c2:codeIn K cd2 "is_level"=true)
  (k2:keepIn K (.ref f2)=true)
  (a3:nsIn K mainGlobals "level_number"=some (some (.ref f3)))
  (l3:K.lookup f3=some ⟨oc3,od3,.func (fnOf "level_number" "level_number" (ab4 ah4) (ab1 ah4) (aa2 ah4) .none kV3 dc3 pm3 an3 cd3 ct3),sl3⟩)
  (c3:codeIn K cd3 "level_number"=true)
  (k3:keepIn K (.ref f3)=true)
  (a4:nsIn K mainGlobals "common_divisor"=some (some (.ref f4)))
  (l4:K.lookup f4=some ⟨oc4,od4,.func (fnOf "common_divisor" "common_divisor" (ab4 ao3) (ab1 ao3) (aa2 ao3) .none kV4 dc4 pm4 an4 cd4 ct4),sl4⟩)
  (c4:codeIn K cd4 "common_divisor"=true)
  (k4:keepIn K (.ref f4)=true)
  (a5:nsIn K mainGlobals "symbols_numbered"=some (some (.ref f5)))
  (l5:K.lookup f5=some ⟨oc5,od5,.func (fnOf "symbols_numbered" "symbols_numbered" (ab4 ao5) (ab1 ao5) (aa2 ao5) .none kV5 dc5 pm5 an5 cd5 ct5),sl5⟩)
  (c5:codeIn K cd5 "symbols_numbered"=true)
  (k5:keepIn K (.ref f5)=true)
  (a6:findIn K (.ref C1) "__init__"=some (some (.ref f6)))
  (i6:isFn K (.ref f6)=true)
  (l6:K.lookup f6=some ⟨oc6,od6,.func (fnOf "__init__" "Level.__init__" (ab4 ax0) (ab1 ax0) (aa2 ax0) .none kV6 dc6 pm6 an6 cd6 ct6),sl6⟩)
  (c6:codeIn K cd6 "Level.__init__"=true)
  (k6:keepIn K (.ref f6)=true)
  (a7:findIn K (.ref C1) "symbols"=some (some (.ref f7)))
  (i7:isFn K (.ref f7)=true)
  (l7:K.lookup f7=some ⟨oc7,od7,.func (fnOf "symbols" "Level.symbols" (ab4 al6) (ab1 al6) (aa2 al6) .none kV7 dc7 pm7 an7 cd7 ct7),sl7⟩)
  (c7:codeIn K cd7 "Level.symbols"=true)
  (k7:keepIn K (.ref f7)=true)
  (a8:findIn K (.ref C1) "tells"=some (some (.ref f8)))
  (i8:isFn K (.ref f8)=true)
  (l8:K.lookup f8=some ⟨oc8,od8,.func (fnOf "tells" "Level.tells" (ab4 as3) (ab1 as3) (aa2 as3) .none kV8 dc8 pm8 an8 cd8 ct8),sl8⟩)
  (c8:codeIn K cd8 "Level.tells"=true)
  (k8:keepIn K (.ref f8)=true)
  (a9:findIn K (.ref C1) "number_of"=some (some (.ref f9)))
  (i9:isFn K (.ref f9)=true)
  (l9:K.lookup f9=some ⟨oc9,od9,.func (fnOf "number_of" "Level.number_of" (ab4 ak0) (ab1 ak0) (aa2 ak0) .none kV9 dc9 pm9 an9 cd9 ct9),sl9⟩)
  (c9:codeIn K cd9 "Level.number_of"=true)
  (k9:keepIn K (.ref f9)=true)
  (a10:nsIn K mainGlobals "halves"=some (some (.ref f10)))
  (l10:K.lookup f10=some ⟨oc10,od10,.func (fnOf "halves" "halves" (ab4 ao6) (ab1 ao6) (aa2 ao6) .none kV10 dc10 pm10 an10 cd10 ct10),sl10⟩)
  (c10:codeIn K cd10 "halves"=true)
  (k10:keepIn K (.ref f10)=true)
  (a11:nsIn K mainGlobals "ring_from"=some (some (.ref f11)))
  (l11:K.lookup f11=some ⟨oc11,od11,.func (fnOf "ring_from" "ring_from" (ab4 aG7) (ab1 aG7) (aa2 aG7) .none kV11 dc11 pm11 an11 cd11 ct11),sl11⟩)
  (c11:codeIn K cd11 "ring_from"=true)
  (k11:keepIn K (.ref f11)=true)
  (a12:nsIn K mainGlobals "rings"=some (some (.ref f12)))
  (l12:K.lookup f12=some ⟨oc12,od12,.func (fnOf "rings" "rings" (ab4 ax2) (ab1 ax2) (aa2 ax2) .none kV12 dc12 pm12 an12 cd12 ct12),sl12⟩)
  (c12:codeIn K cd12 "rings"=true)
  (k12:keepIn K (.ref f12)=true)
  (a13:nsIn K mainGlobals "sorted_rings"=some (some (.ref f13)))
  (l13:K.lookup f13=some ⟨oc13,od13,.func (fnOf "sorted_rings" "sorted_rings" (ab4 ap0) (ab1 ap0) (aa2 ap0) .none kV13 dc13 pm13 an13 cd13 ct13),sl13⟩)
  (c13:codeIn K cd13 "sorted_rings"=true)
  (k13:keepIn K (.ref f13)=true)
  (a14:nsIn K mainGlobals "edges"=some (some (.ref f14)))
  (l14:K.lookup f14=some ⟨oc14,od14,.func (fnOf "edges" "edges" (ab4 ax3) (ab1 ax3) (aa2 ax3) .none kV14 dc14 pm14 an14 cd14 ct14),sl14⟩)
  (c14:codeIn K cd14 "edges"=true)
  (k14:keepIn K (.ref f14)=true)
  (a15:nsIn K mainGlobals "thirds"=some (some (.ref f15)))
  (l15:K.lookup f15=some ⟨oc15,od15,.func (fnOf "thirds" "thirds" (ab4 ao7) (ab1 ao7) (aa2 ao7) .none kV15 dc15 pm15 an15 cd15 ct15),sl15⟩)
  (c15:codeIn K cd15 "thirds"=true)
  (k15:keepIn K (.ref f15)=true)
  (a16:nsIn K mainGlobals "triangles"=some (some (.ref f16)))
  (l16:K.lookup f16=some ⟨oc16,od16,.func (fnOf "triangles" "triangles" (ab4 aG8) (ab1 aG8) (aa2 aG8) .none kV16 dc16 pm16 an16 cd16 ct16),sl16⟩)
  (c16:codeIn K cd16 "triangles"=true)
  (k16:keepIn K (.ref f16)=true)
  (a17:nsIn K mainGlobals "following"=some (some (.ref f17)))
  (l17:K.lookup f17=some ⟨oc17,od17,.func (fnOf "following" "following" (ab4 ao8) (ab1 ao8) (aa2 ao8) .none kV17 dc17 pm17 an17 cd17 ct17),sl17⟩)
  (c17:codeIn K cd17 "following"=true)
  (k17:keepIn K (.ref f17)=true)
  (a18:nsIn K mainGlobals "corners"=some (some (.ref f18)))
  (l18:K.lookup f18=some ⟨oc18,od18,.func (fnOf "corners" "corners" (ab4 ap1) (ab1 ap1) (aa2 ap1) .none kV18 dc18 pm18 an18 cd18 ct18),sl18⟩)
  (c18:codeIn K cd18 "corners"=true)
  (k18:keepIn K (.ref f18)=true)
  (a19:nsIn K mainGlobals "ring_numbers"=some (some (.ref f19)))
  (l19:K.lookup f19=some ⟨oc19,od19,.func (fnOf "ring_numbers" "ring_numbers" (ab4 al8) (ab1 al8) (aa2 al8) .none kV19 dc19 pm19 an19 cd19 ct19),sl19⟩)
  (c19:codeIn K cd19 "ring_numbers"=true)
  (k19:keepIn K (.ref f19)=true)
  (a20:nsIn K mainGlobals "joining"=some (some (.ref f20)))
  (l20:K.lookup f20=some ⟨oc20,od20,.func (fnOf "joining" "joining" (ab4 ak8) (ab1 ak8) (aa2 ak8) .none kV20 dc20 pm20 an20 cd20 ct20),sl20⟩)
  (c20:codeIn K cd20 "joining"=true)
  (k20:keepIn K (.ref f20)=true)
  (a21:nsIn K mainGlobals "chosen"=some (some (.ref f21)))
  (l21:K.lookup f21=some ⟨oc21,od21,.func (fnOf "chosen" "chosen" (ab4 ak1) (ab1 ak1) (aa2 ak1) .none kV21 dc21 pm21 an21 cd21 ct21),sl21⟩)
  (c21:codeIn K cd21 "chosen"=true)
  (k21:keepIn K (.ref f21)=true)
  (a22:nsIn K mainGlobals "settled_order"=some (some (.ref f22)))
  (l22:K.lookup f22=some ⟨oc22,od22,.func (fnOf "settled_order" "settled_order" (ab4 ae6) (ab1 ae6) (aa2 ae6) .none kV22 dc22 pm22 an22 cd22 ct22),sl22⟩)
  (c22:codeIn K cd22 "settled_order"=true)
  (k22:keepIn K (.ref f22)=true)
  (a23:nsIn K mainGlobals "settle"=some (some (.ref f23)))
  (l23:K.lookup f23=some ⟨oc23,od23,.func (fnOf "settle" "settle" (ab4 ap2) (ab1 ap2) (aa2 ap2) .none kV23 dc23 pm23 an23 cd23 ct23),sl23⟩)
  (c23:codeIn K cd23 "settle"=true)
  (k23:keepIn K (.ref f23)=true)
  (a24:nsIn K mainGlobals "added"=some (some (.ref f24)))
  (l24:K.lookup f24=some ⟨oc24,od24,.func (fnOf "added" "added" (ab4 au5) (ab1 au5) (aa2 au5) .none kV24 dc24 pm24 an24 cd24 ct24),sl24⟩)
  (c24:codeIn K cd24 "added"=true)
  (k24:keepIn K (.ref f24)=true)
  (a25:nsIn K mainGlobals "rows_by"=some (some (.ref f25)))
  (l25:K.lookup f25=some ⟨oc25,od25,.func (fnOf "rows_by" "rows_by" (ab4 as4) (ab1 as4) (aa2 as4) .none kV25 dc25 pm25 an25 cd25 ct25),sl25⟩)
  (c25:codeIn K cd25 "rows_by"=true)
  (k25:keepIn K (.ref f25)=true)
  (a26:findIn K (.ref C2) "__init__"=some (some (.ref f26)))
  (i26:isFn K (.ref f26)=true)
  (l26:K.lookup f26=some ⟨oc26,od26,.func (fnOf "__init__" "Room.__init__" (ab4 ax6) (ab1 ax6) (aa2 ax6) .none kV26 dc26 pm26 an26 cd26 ct26),sl26⟩)
  (c26:codeIn K cd26 "Room.__init__"=true)
  (k26:keepIn K (.ref f26)=true)
  (a27:findIn K (.ref C2) "kept"=some (some (.ref f27)))
  (i27:isFn K (.ref f27)=true)
  (l27:K.lookup f27=some ⟨oc27,od27,.func (fnOf "kept" "Room.kept" (ab4 ax7) (ab1 ax7) (aa2 ax7) .none kV27 dc27 pm27 an27 cd27 ct27),sl27⟩)
  (c27:codeIn K cd27 "Room.kept"=true)
  (k27:keepIn K (.ref f27)=true)
  (a28:findIn K (.ref C2) "symbol_row"=some (some (.ref f28)))
  (i28:isFn K (.ref f28)=true)
  (l28:K.lookup f28=some ⟨oc28,od28,.func (fnOf "symbol_row" "Room.symbol_row" (ab4 ap5) (ab1 ap5) (aa2 ap5) .none kV28 dc28 pm28 an28 cd28 ct28),sl28⟩)
  (c28:codeIn K cd28 "Room.symbol_row"=true)
  (k28:keepIn K (.ref f28)=true)
  (a29:findIn K (.ref C2) "no_times"=some (some (.ref f29)))
  (i29:isFn K (.ref f29)=true)
  (l29:K.lookup f29=some ⟨oc29,od29,.func (fnOf "no_times" "Room.no_times" (ab4 am0) (ab1 am0) (aa2 am0) .none kV29 dc29 pm29 an29 cd29 ct29),sl29⟩)
  (c29:codeIn K cd29 "Room.no_times"=true)
  (k29:keepIn K (.ref f29)=true)
  (a30:findIn K (.ref C2) "summed"=some (some (.ref f30)))
  (i30:isFn K (.ref f30)=true)
  (l30:K.lookup f30=some ⟨oc30,od30,.func (fnOf "summed" "Room.summed" (ab4 ap6) (ab1 ap6) (aa2 ap6) .none kV30 dc30 pm30 an30 cd30 ct30),sl30⟩)
  (c30:codeIn K cd30 "Room.summed"=true)
  (k30:keepIn K (.ref f30)=true)
  (a31:nsIn K mainGlobals "division"=some (some (.ref f31)))
  (l31:K.lookup f31=some ⟨oc31,od31,.func (fnOf "division" "division" (ab4 al9) (ab1 al9) (aa2 al9) .none kV31 dc31 pm31 an31 cd31 ct31),sl31⟩)
  (c31:codeIn K cd31 "division"=true)
  (k31:keepIn K (.ref f31)=true)
  (a32:nsIn K mainGlobals "steps_to"=some (some (.ref f32)))
  (l32:K.lookup f32=some ⟨oc32,od32,.func (fnOf "steps_to" "steps_to" (ab4 ax4) (ab1 ax4) (aa2 ax4) .none kV32 dc32 pm32 an32 cd32 ct32),sl32⟩)
  (c32:codeIn K cd32 "steps_to"=true)
  (k32:keepIn K (.ref f32)=true)
  (a33:nsIn K mainGlobals "way"=some (some (.ref f33)))
  (l33:K.lookup f33=some ⟨oc33,od33,.func (fnOf "way" "way" (ab4 sWay) (ab1 sWay) (aa2 sWay) .none kV33 dc33 pm33 an33 cd33 ct33),sl33⟩)
  (c33:codeIn K cd33 "way"=true)
  (k33:keepIn K (.ref f33)=true)
  (a34:nsIn K mainGlobals "crossed"=some (some (.ref f34)))
  (l34:K.lookup f34=some ⟨oc34,od34,.func (fnOf "crossed" "crossed" (ab4 ap4) (ab1 ap4) (aa2 ap4) .none kV34 dc34 pm34 an34 cd34 ct34),sl34⟩)
  (c34:codeIn K cd34 "crossed"=true)
  (k34:keepIn K (.ref f34)=true)
  (a35:nsIn K mainGlobals "road_symbols"=some (some (.ref f35)))
  (l35:K.lookup f35=some ⟨oc35,od35,.func (fnOf "road_symbols" "road_symbols" (ab4 aj4) (ab1 aj4) (aa2 aj4) .none kV35 dc35 pm35 an35 cd35 ct35),sl35⟩)
  (c35:codeIn K cd35 "road_symbols"=true)
  (k35:keepIn K (.ref f35)=true)
  (a36:findIn K (.ref C2) "road_row"=some (some (.ref f36)))
  (i36:isFn K (.ref f36)=true)
  (l36:K.lookup f36=some ⟨oc36,od36,.func (fnOf "road_row" "Room.road_row" (ab4 am1) (ab1 am1) (aa2 am1) .none kV36 dc36 pm36 an36 cd36 ct36),sl36⟩)
  (c36:codeIn K cd36 "Room.road_row"=true)
  (k36:keepIn K (.ref f36)=true)
  (a37:nsIn K mainGlobals "_law_cell_at"=some (some (.ref f37)))
  (l37:K.lookup f37=some ⟨oc37,od37,.func (fnOf "_law_cell_at" "_law_cell_at" (ab4 aH0) (ab1 aH0) (aa2 aH0) .none kV37 dc37 pm37 an37 cd37 ct37),sl37⟩)
  (c37:codeIn K cd37 "_law_cell_at"=true)
  (k37:keepIn K (.ref f37)=true)
  (a38:nsIn K mainGlobals "_law_mixed"=some (some (.ref f38)))
  (l38:K.lookup f38=some ⟨oc38,od38,.func (fnOf "_law_mixed" "_law_mixed" (ab4 ax8) (ab1 ax8) (aa2 ax8) .none kV38 dc38 pm38 an38 cd38 ct38),sl38⟩)
  (c38:codeIn K cd38 "_law_mixed"=true)
  (k38:keepIn K (.ref f38)=true)
  (a39:nsIn K mainGlobals "_law_numbers"=some (some (.ref f39)))
  (l39:K.lookup f39=some ⟨oc39,od39,.func (fnOf "_law_numbers" "_law_numbers" (ab4 ap7) (ab1 ap7) (aa2 ap7) .none kV39 dc39 pm39 an39 cd39 ct39),sl39⟩)
  (c39:codeIn K cd39 "_law_numbers"=true)
  (k39:keepIn K (.ref f39)=true)
  (a40:nsIn K mainGlobals "_law_rest"=some (some (.ref f40)))
  (l40:K.lookup f40=some ⟨oc40,od40,.func (fnOf "_law_rest" "_law_rest" (ab4 aH1) (ab1 aH1) (aa2 aH1) .none kV40 dc40 pm40 an40 cd40 ct40),sl40⟩)
  (c40:codeIn K cd40 "_law_rest"=true)
  (k40:keepIn K (.ref f40)=true)
  (a41:nsIn K mainGlobals "_law_part"=some (some (.ref f41)))
  (l41:K.lookup f41=some ⟨oc41,od41,.func (fnOf "_law_part" "_law_part" (ab4 aH2) (ab1 aH2) (aa2 aH2) .none kV41 dc41 pm41 an41 cd41 ct41),sl41⟩)
  (c41:codeIn K cd41 "_law_part"=true)
  (k41:keepIn K (.ref f41)=true)
  (a42:nsIn K mainGlobals "_law_lowest"=some (some (.ref f42)))
  (l42:K.lookup f42=some ⟨oc42,od42,.func (fnOf "_law_lowest" "_law_lowest" (ab4 as5) (ab1 as5) (aa2 as5) .none kV42 dc42 pm42 an42 cd42 ct42),sl42⟩)
  (c42:codeIn K cd42 "_law_lowest"=true)
  (k42:keepIn K (.ref f42)=true)
  (a43:nsIn K mainGlobals "_law_place_by"=some (some (.ref f43)))
  (l43:K.lookup f43=some ⟨oc43,od43,.func (fnOf "_law_place_by" "_law_place_by" (ab4 ap8) (ab1 ap8) (aa2 ap8) .none kV43 dc43 pm43 an43 cd43 ct43),sl43⟩)
  (c43:codeIn K cd43 "_law_place_by"=true)
  (k43:keepIn K (.ref f43)=true)
  (a44:nsIn K mainGlobals "_law_any_of_level"=some (some (.ref f44)))
  (l44:K.lookup f44=some ⟨oc44,od44,.func (fnOf "_law_any_of_level" "_law_any_of_level" (ab4 ay0) (ab1 ay0) (aa2 ay0) .none kV44 dc44 pm44 an44 cd44 ct44),sl44⟩)
  (c44:codeIn K cd44 "_law_any_of_level"=true)
  (k44:keepIn K (.ref f44)=true)
  (a45:nsIn K mainGlobals "_law_both"=some (some (.ref f45)))
  (l45:K.lookup f45=some ⟨oc45,od45,.func (fnOf "_law_both" "_law_both" (ab4 aH3) (ab1 aH3) (aa2 aH3) .none kV45 dc45 pm45 an45 cd45 ct45),sl45⟩)
  (c45:codeIn K cd45 "_law_both"=true)
  (k45:keepIn K (.ref f45)=true)
  (a46:nsIn K mainGlobals "_law_of_level"=some (some (.ref f46)))
  (l46:K.lookup f46=some ⟨oc46,od46,.func (fnOf "_law_of_level" "_law_of_level" (ab4 ap9) (ab1 ap9) (aa2 ap9) .none kV46 dc46 pm46 an46 cd46 ct46),sl46⟩)
  (c46:codeIn K cd46 "_law_of_level"=true)
  (k46:keepIn K (.ref f46)=true)
  (a47:nsIn K mainGlobals "_law_led"=some (some (.ref f47)))
  (l47:K.lookup f47=some ⟨oc47,od47,.func (fnOf "_law_led" "_law_led" (ab4 aH4) (ab1 aH4) (aa2 aH4) .none kV47 dc47 pm47 an47 cd47 ct47),sl47⟩)
  (c47:codeIn K cd47 "_law_led"=true)
  (k47:keepIn K (.ref f47)=true)
  (a48:nsIn K mainGlobals "_law_way_to"=some (some (.ref f48)))
  (l48:K.lookup f48=some ⟨oc48,od48,.func (fnOf "_law_way_to" "_law_way_to" (ab4 ax9) (ab1 ax9) (aa2 ax9) .none kV48 dc48 pm48 an48 cd48 ct48),sl48⟩)
  (c48:codeIn K cd48 "_law_way_to"=true)
  (k48:keepIn K (.ref f48)=true)
  (a49:nsIn K mainGlobals "_law_walk_by"=some (some (.ref f49)))
  (l49:K.lookup f49=some ⟨oc49,od49,.func (fnOf "_law_walk_by" "_law_walk_by" (ab4 as6) (ab1 as6) (aa2 as6) .none kV49 dc49 pm49 an49 cd49 ct49),sl49⟩)
  (c49:codeIn K cd49 "_law_walk_by"=true)
  (k49:keepIn K (.ref f49)=true)
  (a50:nsIn K mainGlobals "_law_sum"=some (some (.ref f50)))
  (l50:K.lookup f50=some ⟨oc50,od50,.func (fnOf "_law_sum" "_law_sum" (ab4 sSum) (ab1 sSum) (aa2 sSum) .none kV50 dc50 pm50 an50 cd50 ct50),sl50⟩)
  (c50:codeIn K cd50 "_law_sum"=true)
  (k50:keepIn K (.ref f50)=true)
  (a51:nsIn K mainGlobals "law"=some (some (.ref f51)))
  (l51:K.lookup f51=some ⟨oc51,od51,.func (fnOf "law" "law" (ab4 sLaw) (ab1 sLaw) (aa2 sLaw) .none kV51 dc51 pm51 an51 cd51 ct51),sl51⟩)
  (c51:codeIn K cd51 "law"=true)
  (k51:keepIn K (.ref f51)=true)
  (aXNoLevel:nsIn K mainGlobals "NoLevel"=some (some (.ref gN)))
  (q_NoLevel:excIn K gN [.type "ValueError",.type "Exception",.type "BaseException",.type "object"] "ValueError.__new__"=true)
  (aXNoSymbol:nsIn K mainGlobals "NoSymbol"=some (some (.ref gS)))
  (q_NoSymbol:excIn K gS [.type "ValueError",.type "Exception",.type "BaseException",.type "object"] "ValueError.__new__"=true)
  (aILAST_LEVEL:nsIn K mainGlobals "LAST_LEVEL"=some (some (.int 48 t_LAST_LEVEL)))
  (aB:nsIn K mainGlobals "BEYOND"=some (some (.ref fB)))
  (lB:K.lookup fB=some ⟨.type "tuple",odB,.seq #[.int 1 tB1,.int 0 tB2] nB,slB⟩)
  (z_len:nsIn K mainGlobals "len"=some none)
  (z_abs:nsIn K mainGlobals "abs"=some none)
  (z_int:nsIn K mainGlobals "int"=some none)
  (z_max:nsIn K mainGlobals "max"=some none)
  (z_min:nsIn K mainGlobals "min"=some none)
  (z_range:nsIn K mainGlobals "range"=some none)
  (z_isinstance:nsIn K mainGlobals "isinstance"=some none)
  (z_bool:nsIn K mainGlobals "bool"=some none)
  (z_tuple:nsIn K mainGlobals "tuple"=some none)
  (z_list:nsIn K mainGlobals "list"=some none)
  (z_str:nsIn K mainGlobals "str"=some none)
  (z_zip:nsIn K mainGlobals "zip"=some none)
  (z_all:nsIn K mainGlobals "all"=some none)
  (z_divmod:nsIn K mainGlobals "divmod"=some none)
  (z_enumerate:nsIn K mainGlobals "enumerate"=some none)
  (z_sum:nsIn K mainGlobals "sum"=some none)
  (z_sorted:nsIn K mainGlobals "sorted"=some none)
  (z_any:nsIn K mainGlobals "any"=some none)
  (z_dict:nsIn K mainGlobals "dict"=some none)
  (z_reversed:nsIn K mainGlobals "reversed"=some none)
  : ∃ fd:FuncData,(∀ (s:Shared) (v:Value),BindsTo s fd ⟨[v],[]⟩ [("_law_script",v)])∧∀ base:Heap,K.In base→base.Ns mainGlobals mg→FnOk l.prog w K mg base CX0 8 fa fd ["_law_script"] (L3.aT7 K):=by
 have e:=hfa.symm.trans (mg_of X G a51)
 cases e
 have T:Bt mg:={ len:=mg_none_of X G z_len,abs:=mg_none_of X G z_abs,int:=mg_none_of X G z_int,max:=mg_none_of X G z_max,min:=mg_none_of X G z_min,range:=mg_none_of X G z_range,isinstance:=mg_none_of X G z_isinstance,bool:=mg_none_of X G z_bool,tuple:=mg_none_of X G z_tuple,list:=mg_none_of X G z_list,str:=mg_none_of X G z_str,zip:=mg_none_of X G z_zip,all:=mg_none_of X G z_all,divmod:=mg_none_of X G z_divmod,enumerate:=mg_none_of X G z_enumerate,sum:=mg_none_of X G z_sum,sorted:=mg_none_of X G z_sorted,any:=mg_none_of X G z_any,dict:=mg_none_of X G z_dict,reversed:=mg_none_of X G z_reversed }
 have TLevel:LevC K C1:=⟨⟨pgC1,hdC1,poC1,saC1⟩,nC1_modulus,nC1_all_symbols,nC1_pair_numbers⟩
 have TRoom:RoomC K C2:=⟨⟨pgC2,hdC2,poC2,saC2⟩,nC2_own_level,nC2_kept_numbers,nC2_settled_numbers,nC2_symbol_rows⟩
 have m_NoLevel:=mg_of X G aXNoLevel
 have m_NoSymbol:=mg_of X G aXNoSymbol
 have mI_LAST_LEVEL:=mg_of X G aILAST_LEVEL
 have m_BEYOND:=mg_of X G aB
 have sB:∀ F,Rp K F (.ref fB) (.tup [.int 1,.int 0]):=fun F=>.tup (xs:=[.int 1,.int 0]) (.inr ⟨_,_,_,lB,rfl,rfl,(by show 2≤sizeLine;decide),.cons ⟨_,rfl⟩ (.cons ⟨_,rfl⟩ .nil)⟩) (.cons (.int 1) (.cons (.int 0) .nil))
 have F1:=ab9 (st:=as2) l1 c1 k1
 have b1:=F1.binds (ps:=["thing"]) fun _ _ _ _ _ _ us hl=>by obtain⟨a0,rfl⟩:=us_1 hl;rfl
 have m1:=mg_of X G a1
 have F2:=ab9 (st:=ao4) l2 c2 k2
 have b2:=F2.binds (ps:=["thing"]) fun _ _ _ _ _ _ us hl=>by obtain⟨a0,rfl⟩:=us_1 hl;rfl
 have m2:=mg_of X G a2
 have F3:=ab9 (st:=ah4) l3 c3 k3
 have b3:=F3.binds (ps:=["thing"]) fun _ _ _ _ _ _ us hl=>by obtain⟨a0,rfl⟩:=us_1 hl;rfl
 have m3:=mg_of X G a3
 have F4:=ab9 (st:=ao3) l4 c4 k4
 have b4:=F4.binds (ps:=["one","other"]) fun _ _ _ _ _ _ us hl=>by obtain⟨a0,a1,rfl⟩:=us_2 hl;rfl
 have m4:=mg_of X G a4
 have F5:=ab9 (st:=ao5) l5 c5 k5
 have b5:=F5.binds (ps:=["n"]) fun _ _ _ _ _ _ us hl=>by obtain⟨a0,rfl⟩:=us_1 hl;rfl
 have m5:=mg_of X G a5
 have F6:=ab9 (st:=ax0) l6 c6 k6
 have b6:=F6.binds (ps:=["self","n"]) fun _ _ _ _ _ _ us hl=>by obtain⟨a0,a1,rfl⟩:=us_2 hl;rfl
 have F7:=ab9 (st:=al6) l7 c7 k7
 have b7:=F7.binds (ps:=["self"]) fun _ _ _ _ _ _ us hl=>by obtain⟨a0,rfl⟩:=us_1 hl;rfl
 have F8:=ab9 (st:=as3) l8 c8 k8
 have b8:=F8.binds (ps:=["self","u","v"]) fun _ _ _ _ _ _ us hl=>by obtain⟨a0,a1,a2,rfl⟩:=us_3 hl;rfl
 have F9:=ab9 (st:=ak0) l9 c9 k9
 have b9:=F9.binds (ps:=["self","u","v"]) fun _ _ _ _ _ _ us hl=>by obtain⟨a0,a1,a2,rfl⟩:=us_3 hl;rfl
 have F10:=ab9 (st:=ao6) l10 c10 k10
 have b10:=F10.binds (ps:=["level"]) fun _ _ _ _ _ _ us hl=>by obtain⟨a0,rfl⟩:=us_1 hl;rfl
 have m10:=mg_of X G a10
 have F11:=ab9 (st:=aG7) l11 c11 k11
 have b11:=F11.binds (ps:=["leads","first"]) fun _ _ _ _ _ _ us hl=>by obtain⟨a0,a1,rfl⟩:=us_2 hl;rfl
 have m11:=mg_of X G a11
 have F12:=ab9 (st:=ax2) l12 c12 k12
 have b12:=F12.binds (ps:=["leads"]) fun _ _ _ _ _ _ us hl=>by obtain⟨a0,rfl⟩:=us_1 hl;rfl
 have m12:=mg_of X G a12
 have F13:=ab9 (st:=ap0) l13 c13 k13
 have b13:=F13.binds (ps:=["leads"]) fun _ _ _ _ _ _ us hl=>by obtain⟨a0,rfl⟩:=us_1 hl;rfl
 have m13:=mg_of X G a13
 have F14:=ab9 (st:=ax3) l14 c14 k14
 have b14:=F14.binds (ps:=["level"]) fun _ _ _ _ _ _ us hl=>by obtain⟨a0,rfl⟩:=us_1 hl;rfl
 have m14:=mg_of X G a14
 have F15:=ab9 (st:=ao7) l15 c15 k15
 have b15:=F15.binds (ps:=["level"]) fun _ _ _ _ _ _ us hl=>by obtain⟨a0,rfl⟩:=us_1 hl;rfl
 have m15:=mg_of X G a15
 have F16:=ab9 (st:=aG8) l16 c16 k16
 have b16:=F16.binds (ps:=["level"]) fun _ _ _ _ _ _ us hl=>by obtain⟨a0,rfl⟩:=us_1 hl;rfl
 have m16:=mg_of X G a16
 have F17:=ab9 (st:=ao8) l17 c17 k17
 have b17:=F17.binds (ps:=["level"]) fun _ _ _ _ _ _ us hl=>by obtain⟨a0,rfl⟩:=us_1 hl;rfl
 have m17:=mg_of X G a17
 have F18:=ab9 (st:=ap1) l18 c18 k18
 have b18:=F18.binds (ps:=["level"]) fun _ _ _ _ _ _ us hl=>by obtain⟨a0,rfl⟩:=us_1 hl;rfl
 have m18:=mg_of X G a18
 have F19:=ab9 (st:=al8) l19 c19 k19
 have b19:=F19.binds (ps:=["many","told_rings"]) fun _ _ _ _ _ _ us hl=>by obtain⟨a0,a1,rfl⟩:=us_2 hl;rfl
 have m19:=mg_of X G a19
 have F20:=ab9 (st:=ak8) l20 c20 k20
 have b20:=F20.binds (ps:=["sides","half","group"]) fun _ _ _ _ _ _ us hl=>by obtain⟨a0,a1,a2,rfl⟩:=us_3 hl;rfl
 have m20:=mg_of X G a20
 have F21:=ab9 (st:=ak1) l21 c21 k21
 have b21:=F21.binds (ps:=["level"]) fun _ _ _ _ _ _ us hl=>by obtain⟨a0,rfl⟩:=us_1 hl;rfl
 have m21:=mg_of X G a21
 have F22:=ab9 (st:=ae6) l22 c22 k22
 have b22:=F22.binds (ps:=["level","kept"]) fun _ _ _ _ _ _ us hl=>by obtain⟨a0,a1,rfl⟩:=us_2 hl;rfl
 have m22:=mg_of X G a22
 have F23:=ab9 (st:=ap2) l23 c23 k23
 have b23:=F23.binds (ps:=["rows","half","number","row"]) fun _ _ _ _ _ _ us hl=>by obtain⟨a0,a1,a2,a3,rfl⟩:=us_4 hl;rfl
 have m23:=mg_of X G a23
 have F24:=ab9 (st:=au5) l24 c24 k24
 have b24:=F24.binds (ps:=["row","many","other"]) fun _ _ _ _ _ _ us hl=>by obtain⟨a0,a1,a2,rfl⟩:=us_3 hl;rfl
 have m24:=mg_of X G a24
 have F25:=ab9 (st:=as4) l25 c25 k25
 have b25:=F25.binds (ps:=["level","kept","order"]) fun _ _ _ _ _ _ us hl=>by obtain⟨a0,a1,a2,rfl⟩:=us_3 hl;rfl
 have m25:=mg_of X G a25
 have F26:=ab9 (st:=ax6) l26 c26 k26
 have b26:=F26.binds (ps:=["self","level"]) fun _ _ _ _ _ _ us hl=>by obtain⟨a0,a1,rfl⟩:=us_2 hl;rfl
 have F27:=ab9 (st:=ax7) l27 c27 k27
 have b27:=F27.binds (ps:=["self"]) fun _ _ _ _ _ _ us hl=>by obtain⟨a0,rfl⟩:=us_1 hl;rfl
 have F28:=ab9 (st:=ap5) l28 c28 k28
 have b28:=F28.binds (ps:=["self","u","v"]) fun _ _ _ _ _ _ us hl=>by obtain⟨a0,a1,a2,rfl⟩:=us_3 hl;rfl
 have F29:=ab9 (st:=am0) l29 c29 k29
 have b29:=F29.binds (ps:=["self"]) fun _ _ _ _ _ _ us hl=>by obtain⟨a0,rfl⟩:=us_1 hl;rfl
 have F30:=ab9 (st:=ap6) l30 c30 k30
 have b30:=F30.binds (ps:=["self","times"]) fun _ _ _ _ _ _ us hl=>by obtain⟨a0,a1,rfl⟩:=us_2 hl;rfl
 have F31:=ab9 (st:=al9) l31 c31 k31
 have b31:=F31.binds (ps:=["top","bottom"]) fun _ _ _ _ _ _ us hl=>by obtain⟨a0,a1,rfl⟩:=us_2 hl;rfl
 have m31:=mg_of X G a31
 have F32:=ab9 (st:=ax4) l32 c32 k32
 have b32:=F32.binds (ps:=["place"]) fun _ _ _ _ _ _ us hl=>by obtain⟨a0,rfl⟩:=us_1 hl;rfl
 have m32:=mg_of X G a32
 have F33:=ab9 (st:=sWay) l33 c33 k33
 have b33:=F33.binds (ps:=["one","other"]) fun _ _ _ _ _ _ us hl=>by obtain⟨a0,a1,rfl⟩:=us_2 hl;rfl
 have m33:=mg_of X G a33
 have F34:=ab9 (st:=ap4) l34 c34 k34
 have b34:=F34.binds (ps:=["one","other"]) fun _ _ _ _ _ _ us hl=>by obtain⟨a0,a1,rfl⟩:=us_2 hl;rfl
 have m34:=mg_of X G a34
 have F35:=ab9 (st:=aj4) l35 c35 k35
 have b35:=F35.binds (ps:=["level","one","other"]) fun _ _ _ _ _ _ us hl=>by obtain⟨a0,a1,a2,rfl⟩:=us_3 hl;rfl
 have m35:=mg_of X G a35
 have F36:=ab9 (st:=am1) l36 c36 k36
 have b36:=F36.binds (ps:=["self","one","other"]) fun _ _ _ _ _ _ us hl=>by obtain⟨a0,a1,a2,rfl⟩:=us_3 hl;rfl
 have F37:=ab9 (st:=aH0) l37 c37 k37
 have b37:=F37.binds (ps:=["_law_script","_law_k"]) fun _ _ _ _ _ _ us hl=>by obtain⟨a0,a1,rfl⟩:=us_2 hl;rfl
 have m37:=mg_of X G a37
 have F38:=ab9 (st:=ax8) l38 c38 k38
 have b38:=F38.binds (ps:=["_law_cell","_law_k"]) fun _ _ _ _ _ _ us hl=>by obtain⟨a0,a1,rfl⟩:=us_2 hl;rfl
 have m38:=mg_of X G a38
 have F39:=ab9 (st:=ap7) l39 c39 k39
 have b39:=F39.binds (ps:=["_law_cell","_law_many","_law_most"]) fun _ _ _ _ _ _ us hl=>by obtain⟨a0,a1,a2,rfl⟩:=us_3 hl;rfl
 have m39:=mg_of X G a39
 have F40:=ab9 (st:=aH1) l40 c40 k40
 have b40:=F40.binds (ps:=["_law_cell","_law_by"]) fun _ _ _ _ _ _ us hl=>by obtain⟨a0,a1,rfl⟩:=us_2 hl;rfl
 have m40:=mg_of X G a40
 have F41:=ab9 (st:=aH2) l41 c41 k41
 have b41:=F41.binds (ps:=["_law_one","_law_other"]) fun _ _ _ _ _ _ us hl=>by obtain⟨a0,a1,rfl⟩:=us_2 hl;rfl
 have m41:=mg_of X G a41
 have F42:=ab9 (st:=as5) l42 c42 k42
 have b42:=F42.binds (ps:=["_law_top","_law_bottom"]) fun _ _ _ _ _ _ us hl=>by obtain⟨a0,a1,rfl⟩:=us_2 hl;rfl
 have m42:=mg_of X G a42
 have F43:=ab9 (st:=ap8) l43 c43 k43
 have b43:=F43.binds (ps:=["_law_cell"]) fun _ _ _ _ _ _ us hl=>by obtain⟨a0,rfl⟩:=us_1 hl;rfl
 have m43:=mg_of X G a43
 have F44:=ab9 (st:=ay0) l44 c44 k44
 have b44:=F44.binds (ps:=["_law_n","_law_number"]) fun _ _ _ _ _ _ us hl=>by obtain⟨a0,a1,rfl⟩:=us_2 hl;rfl
 have m44:=mg_of X G a44
 have F45:=ab9 (st:=aH3) l45 c45 k45
 have b45:=F45.binds (ps:=["_law_one","_law_other"]) fun _ _ _ _ _ _ us hl=>by obtain⟨a0,a1,rfl⟩:=us_2 hl;rfl
 have m45:=mg_of X G a45
 have F46:=ab9 (st:=ap9) l46 c46 k46
 have b46:=F46.binds (ps:=["_law_cell","_law_n"]) fun _ _ _ _ _ _ us hl=>by obtain⟨a0,a1,rfl⟩:=us_2 hl;rfl
 have m46:=mg_of X G a46
 have F47:=ab9 (st:=aH4) l47 c47 k47
 have b47:=F47.binds (ps:=["_law_turning","_law_one"]) fun _ _ _ _ _ _ us hl=>by obtain⟨a0,a1,rfl⟩:=us_2 hl;rfl
 have m47:=mg_of X G a47
 have F48:=ab9 (st:=ax9) l48 c48 k48
 have b48:=F48.binds (ps:=["_law_one"]) fun _ _ _ _ _ _ us hl=>by obtain⟨a0,rfl⟩:=us_1 hl;rfl
 have m48:=mg_of X G a48
 have F49:=ab9 (st:=as6) l49 c49 k49
 have b49:=F49.binds (ps:=["_law_cell","_law_one"]) fun _ _ _ _ _ _ us hl=>by obtain⟨a0,a1,rfl⟩:=us_2 hl;rfl
 have m49:=mg_of X G a49
 have F50:=ab9 (st:=sSum) l50 c50 k50
 have b50:=F50.binds (ps:=["_law_rows","_law_many"]) fun _ _ _ _ _ _ us hl=>by obtain⟨a0,a1,rfl⟩:=us_2 hl;rfl
 have m50:=mg_of X G a50
 have F51:=ab9 (st:=sLaw) l51 c51 k51
 have b51:=F51.binds (ps:=["_law_script"]) fun _ _ _ _ _ _ us hl=>by obtain⟨a0,rfl⟩:=us_1 hl;rfl
 have m51:=mg_of X G a51
 refine⟨fnOf "law" "law" (ab4 sLaw) (ab1 sLaw) (aa2 sLaw) .none kV51 dc51 pm51 an51 cd51 ct51,fun s v=>.of_eq rfl,fun base hb1 hb2=>?_⟩
 have O1:Own3 l.prog w K mg base 1 "is_whole" ["thing"] (aP0):=⟨_,_,bs1 F1 T  ,m1,k1,b1⟩
 have O2:Own3 l.prog w K mg base 2 "is_level" ["thing"] (aE1):=⟨_,_,bj8 F2 T mI_LAST_LEVEL (O1.mono (by decide)),m2,k2,b2⟩
 have O3:Own3 l.prog w K mg base 3 "level_number" ["thing"] (ar2 gN):=⟨_,_,aP2 F3 T m_NoLevel q_NoLevel (O2.mono (by decide)),m3,k3,b3⟩
 have O4:Own3 l.prog w K mg base 1 "common_divisor" ["one","other"] (aj1):=⟨_,_,bj7 F4 T  ,m4,k4,b4⟩
 have O5:Own3 l.prog w K mg base 2 "symbols_numbered" ["n"] (aJ0):=⟨_,_,bs2 F5 T  (O4.mono (by decide)),m5,k5,b5⟩
 have O6:MkOk l.prog w K mg base 4 "Level" C1 ["self","n"] (aP1 C1 gN):=⟨⟨_,_,bz8 F6 T TLevel (O3.mono (by decide)) (O5.mono (by decide)),⟨mkC1,a6,i6,kcC1⟩,b6⟩,mg_of X G aCC1⟩
 have O7:MtOk l.prog w K mg base 1 C1 "symbols" ["self"] (am5 C1):=⟨TLevel.cl,_,_,bb4 F7 T TLevel ,⟨a7,i7,k7⟩,b7⟩
 have O8:MtOk l.prog w K mg base 1 C1 "tells" ["self","u","v"] (aJ1 C1):=⟨TLevel.cl,_,_,bs3 F8 T TLevel ,⟨a8,i8,k8⟩,b8⟩
 have O9:MtOk l.prog w K mg base 2 C1 "number_of" ["self","u","v"] (ah1 C1 gS):=⟨TLevel.cl,_,_,aZ0 F9 T TLevel m_NoSymbol q_NoSymbol (O8.mono (by decide)),⟨a9,i9,k9⟩,b9⟩
 have O10:Own3 l.prog w K mg base 3 "halves" ["level"] (ao9 C1):=⟨_,_,bs4 F10 T TLevel (O7.mono (by decide)) (O9.mono (by decide)),m10,k10,b10⟩
 have O11:Own3 l.prog w K mg base 1 "ring_from" ["leads","first"] (aM9):=⟨_,_,bM0 F11 T  ,m11,k11,b11⟩
 have O12:Own3 l.prog w K mg base 2 "rings" ["leads"] (aP4):=⟨_,_,bz9 F12 T  (O11.mono (by decide)),m12,k12,b12⟩
 have O13:Own3 l.prog w K mg base 3 "sorted_rings" ["leads"] (au4):=⟨_,_,bs8 F13 T  (O12.mono (by decide)),m13,k13,b13⟩
 have O14:Own3 l.prog w K mg base 4 "edges" ["level"] (aq7 C1 hvM k2F):=⟨_,_,bA1 F14 T  (O10.mono (by decide)) (O13.mono (by decide)),m14,k14,b14⟩
 have O15:Own3 l.prog w K mg base 3 "thirds" ["level"] (aA4 C1):=⟨_,_,bs5 F15 T TLevel (O7.mono (by decide)) (O9.mono (by decide)),m15,k15,b15⟩
 have O16:Own3 l.prog w K mg base 4 "triangles" ["level"] (aq7 C1 thM k3F):=⟨_,_,bM1 F16 T  (O15.mono (by decide)) (O13.mono (by decide)),m16,k16,b16⟩
 have O17:Own3 l.prog w K mg base 3 "following" ["level"] (aJ3 C1):=⟨_,_,bs6 F17 T TLevel (O7.mono (by decide)) (O9.mono (by decide)),m17,k17,b17⟩
 have O18:Own3 l.prog w K mg base 4 "corners" ["level"] (aq7 C1 foM kNF):=⟨_,_,bj9 F18 T  (O17.mono (by decide)) (O13.mono (by decide)),m18,k18,b18⟩
 have O19:Own3 l.prog w K mg base 1 "ring_numbers" ["many","told_rings"] (aA5):=⟨_,_,bb5 F19 T  ,m19,k19,b19⟩
 have O20:Own3 l.prog w K mg base 1 "joining" ["sides","half","group"] (aE2):=⟨_,_,bk1 F20 T  ,m20,k20,b20⟩
 have O21:Own3 l.prog w K mg base 5 "chosen" ["level"] (aJ4 C1):=⟨_,_,bs9 F21 T  (O10.mono (by decide)) (O14.mono (by decide)) (O16.mono (by decide)) (O18.mono (by decide)) (O19.mono (by decide)) (O20.mono (by decide)),m21,k21,b21⟩
 have O22:Own3 l.prog w K mg base 5 "settled_order" ["level","kept"] (ap3 C1):=⟨_,_,aN1 F22 T  (O10.mono (by decide)) (O16.mono (by decide)),m22,k22,b22⟩
 have O23:Own3 l.prog w K mg base 1 "settle" ["rows","half","number","row"] (aJ5):=⟨_,_,bt0 F23 T  ,m23,k23,b23⟩
 have O24:Own3 l.prog w K mg base 1 "added" ["row","many","other"] (aG9):=⟨_,_,bA2 F24 T  ,m24,k24,b24⟩
 have O25:Own3 l.prog w K mg base 5 "rows_by" ["level","kept","order"] (aJ7 C1):=⟨_,_,bt4 F25 T  (O10.mono (by decide)) (O15.mono (by decide)) (O23.mono (by decide)) (O11.mono (by decide)) (O24.mono (by decide)),m25,k25,b25⟩
 have O26:MkOk l.prog w K mg base 6 "Room" C2 ["self","level"] (aP9 C1 C2):=⟨⟨_,_,bB0 F26 T TRoom (O21.mono (by decide)) (O22.mono (by decide)) (O25.mono (by decide)),⟨mkC2,a26,i26,kcC2⟩,b26⟩,mg_of X G aCC2⟩
 have O27:MtOk l.prog w K mg base 1 C2 "kept" ["self"] (aQ0 C1 C2):=⟨TRoom.cl,_,_,bB1 F27 T TRoom ,⟨a27,i27,k27⟩,b27⟩
 have O28:MtOk l.prog w K mg base 3 C2 "symbol_row" ["self","u","v"] (aE4 C1 C2 gS):=⟨TRoom.cl,_,_,bk4 F28 T TRoom (O9.mono (by decide)),⟨a28,i28,k28⟩,b28⟩
 have O29:MtOk l.prog w K mg base 1 C2 "no_times" ["self"] (aA9 C1 C2):=⟨TRoom.cl,_,_,bb8 F29 T TRoom ,⟨a29,i29,k29⟩,b29⟩
 have O30:MtOk l.prog w K mg base 2 C2 "summed" ["self","times"] (aE5 C1 C2):=⟨TRoom.cl,_,_,bk5 F30 T TRoom (O24.mono (by decide)),⟨a30,i30,k30⟩,b30⟩
 have O31:Own3 l.prog w K mg base 1 "division" ["top","bottom"] (aA7):=⟨_,_,bb6 F31 T  ,m31,k31,b31⟩
 have O32:Own3 l.prog w K mg base 2 "steps_to" ["place"] (aP8):=⟨_,_,bA7 F32 T m_BEYOND sB (O31.mono (by decide)),m32,k32,b32⟩
 have O33:Own3 l.prog w K mg base 3 "way" ["one","other"] (bk2):=⟨_,_,bV9 F33 T  (O32.mono (by decide)),m33,k33,b33⟩
 have O34:Own3 l.prog w K mg base 1 "crossed" ["one","other"] (aE3):=⟨_,_,bk3 F34 T  ,m34,k34,b34⟩
 have O35:Own3 l.prog w K mg base 4 "road_symbols" ["level","one","other"] (aA8 C1):=⟨_,_,bb7 F35 T  (O9.mono (by decide)) (O33.mono (by decide)) (O34.mono (by decide)),m35,k35,b35⟩
 have O36:MtOk l.prog w K mg base 5 C2 "road_row" ["self","one","other"] (aB0 C1 C2):=⟨TRoom.cl,_,_,bb9 F36 T TRoom (O29.mono (by decide)) (O30.mono (by decide)) (O35.mono (by decide)),⟨a36,i36,k36⟩,b36⟩
 have O37:Own3 l.prog w K mg base 1 "_law_cell_at" ["_law_script","_law_k"] (aZ9):=⟨_,_,bM7 F37 T  ,m37,k37,b37⟩
 have O38:Own3 l.prog w K mg base 1 "_law_mixed" ["_law_cell","_law_k"] (aQ1):=⟨_,_,bB2 F38 T  ,m38,k38,b38⟩
 have O39:Own3 l.prog w K mg base 2 "_law_numbers" ["_law_cell","_law_many","_law_most"] (am2):=⟨_,_,bk6 F39 T  (O38.mono (by decide)),m39,k39,b39⟩
 have O40:Own3 l.prog w K mg base 1 "_law_rest" ["_law_cell","_law_by"] (aE6):=⟨_,_,bM8 F40 T  ,m40,k40,b40⟩
 have O41:Own3 l.prog w K mg base 1 "_law_part" ["_law_one","_law_other"] (aj1):=⟨_,_,bM9 F41 T  ,m41,k41,b41⟩
 have O42:Own3 l.prog w K mg base 2 "_law_lowest" ["_law_top","_law_bottom"] (au6):=⟨_,_,bt6 F42 T  (O41.mono (by decide)),m42,k42,b42⟩
 have O43:Own3 l.prog w K mg base 3 "_law_place_by" ["_law_cell"] (aE7):=⟨_,_,bk7 F43 T  (O39.mono (by decide)) (O40.mono (by decide)) (O42.mono (by decide)),m43,k43,b43⟩
 have O44:Own3 l.prog w K mg base 2 "_law_any_of_level" ["_law_n","_law_number"] (aQ3):=⟨_,_,bB7 F44 T  (O41.mono (by decide)),m44,k44,b44⟩
 have O45:Own3 l.prog w K mg base 1 "_law_both" ["_law_one","_law_other"] (ba2):=⟨_,_,bN2 F45 T  ,m45,k45,b45⟩
 have O46:Own3 l.prog w K mg base 3 "_law_of_level" ["_law_cell","_law_n"] (aE8):=⟨_,_,bk9 F46 T  (O39.mono (by decide)) (O40.mono (by decide)) (O44.mono (by decide)) (O45.mono (by decide)),m46,k46,b46⟩
 have O47:Own3 l.prog w K mg base 3 "_law_led" ["_law_turning","_law_one"] (ba3):=⟨_,_,bN3 F47 T  (O42.mono (by decide)),m47,k47,b47⟩
 have O48:Own3 l.prog w K mg base 1 "_law_way_to" ["_law_one"] (aQ2):=⟨_,_,bB3 F48 T  ,m48,k48,b48⟩
 have O49:Own3 l.prog w K mg base 4 "_law_walk_by" ["_law_cell","_law_one"] (aJ8):=⟨_,_,bt7 F49 T  (O48.mono (by decide)) (O39.mono (by decide)) (O40.mono (by decide)) (O42.mono (by decide)),m49,k49,b49⟩
 have O50:Own3 l.prog w K mg base 1 "_law_sum" ["_law_rows","_law_many"] (bk8):=⟨_,_,bW0 F50 T  ,m50,k50,b50⟩
 exact bS7 (bW1 F51 T TLevel TRoom (O6.mono (by decide)) (O26.mono (by decide)) (O27.mono (by decide)) (O28.mono (by decide)) (O36.mono (by decide)) (O37.mono (by decide)) (O39.mono (by decide)) (O43.mono (by decide)) (O46.mono (by decide)) (O47.mono (by decide)) (O49.mono (by decide)) (O50.mono (by decide))) fun ns hn Q q=>⟨hn,q⟩
theorem walk {l:PySem.W.OpenLaw}{q:Program}{loose:List Str}{XP:(Str→Option Value)→Heap→Prop}{YP:World→Heap→Prop}{d:DefRec}{K:Params→PySem.W.Frag}(hn:l.most=some 63)(hdf:d.params.defaults=[])
  (hY:∀ (w:World) (h:Heap),YP w h→(K w.params).In h) (hT:∀ w:World,nsIn (K w.params) mainGlobals "is_number_text"=some none)
  (F:∀ (w:World) (mg:Str→Option Value) (fa:Addr) (h:Heap),(K w.params).In h→h.Ns mainGlobals mg→mg d.name=some (.ref fa) →
   ∃ fd:FuncData,(∀ (s:Shared) (u:Value),BindsTo s fd ⟨[u],[]⟩ [("_law_script",u)])∧∀ base:Heap,(K w.params).In base→base.Ns mainGlobals mg→FnOk l.prog w (K w.params) mg base CX0 8 fa fd ["_law_script"] (L3.aT7 (K w.params))) :
  PySem.W.WalkO q loose XP YP l.row.toRowW d [] (fun f vs=>PySem.call f vs) :=
 L2.bG7 (n:=63) (k:=8) (x:="_law_script") (CX:=fun _=>CX0) (sp:=fun w=>L3.aT7 (K w.params)) hn (by decide) hdf ⟨rfl,by decide,by decide⟩ hY F (fun w _ a ns hl _ hS=>⟨a,ns,rfl,hS,hl,Tb.none (hT w),fun _ _=>rfl⟩) fun _ _ _ _ _ z=>z
end Fr
open PySem PySem.W PyProof.Rows
set_option maxRecDepth 100000 in
set_option maxHeartbeats 0 in
theorem PySem.Challenge.cw_fractionroads_k35_whole_roads_of_the_lev_holds : PySem.Challenge.rw_fractionroads_k35_whole_roads_of_the_lev.Holds := by
 refine Fr.headPack.2 ?_
 delta Fr.headPack
 dsimp only
 refine Fr.walk (l:=PySem.Challenge.rw_fractionroads_k35_whole_roads_of_the_lev) rfl rfl (fun w h Y=>kIn_of Y) ?T ?F
 case T=>intro w;k_is
 case F =>
  intro w mg fa h KX G hmg
  refine' Fr.all_mk KX G hmg ?aCC1 ?pgC1 ?hdC1 ?poC1 ?saC1 ?mkC1 ?kcC1 ?nC1_modulus ?nC1_all_symbols ?nC1_pair_numbers ?aCC2 ?pgC2 ?hdC2 ?poC2 ?saC2 ?mkC2 ?kcC2 ?nC2_own_level ?nC2_kept_numbers ?nC2_settled_numbers ?nC2_symbol_rows ?a1 ?l1 ?c1 ?k1 ?a2 ?l2 ?c2 ?k2 ?a3 ?l3 ?c3 ?k3 ?a4 ?l4 ?c4 ?k4 ?a5 ?l5 ?c5 ?k5 ?a6 ?i6 ?l6 ?c6 ?k6 ?a7 ?i7 ?l7 ?c7 ?k7 ?a8 ?i8 ?l8 ?c8 ?k8 ?a9 ?i9 ?l9 ?c9 ?k9 ?a10 ?l10 ?c10 ?k10 ?a11 ?l11 ?c11 ?k11 ?a12 ?l12 ?c12 ?k12 ?a13 ?l13 ?c13 ?k13 ?a14 ?l14 ?c14 ?k14 ?a15 ?l15 ?c15 ?k15 ?a16 ?l16 ?c16 ?k16 ?a17 ?l17 ?c17 ?k17 ?a18 ?l18 ?c18 ?k18 ?a19 ?l19 ?c19 ?k19 ?a20 ?l20 ?c20 ?k20 ?a21 ?l21 ?c21 ?k21 ?a22 ?l22 ?c22 ?k22 ?a23 ?l23 ?c23 ?k23 ?a24 ?l24 ?c24 ?k24 ?a25 ?l25 ?c25 ?k25 ?a26 ?i26 ?l26 ?c26 ?k26 ?a27 ?i27 ?l27 ?c27 ?k27 ?a28 ?i28 ?l28 ?c28 ?k28 ?a29 ?i29 ?l29 ?c29 ?k29 ?a30 ?i30 ?l30 ?c30 ?k30 ?a31 ?l31 ?c31 ?k31 ?a32 ?l32 ?c32 ?k32 ?a33 ?l33 ?c33 ?k33 ?a34 ?l34 ?c34 ?k34 ?a35 ?l35 ?c35 ?k35 ?a36 ?i36 ?l36 ?c36 ?k36 ?a37 ?l37 ?c37 ?k37 ?a38 ?l38 ?c38 ?k38 ?a39 ?l39 ?c39 ?k39 ?a40 ?l40 ?c40 ?k40 ?a41 ?l41 ?c41 ?k41 ?a42 ?l42 ?c42 ?k42 ?a43 ?l43 ?c43 ?k43 ?a44 ?l44 ?c44 ?k44 ?a45 ?l45 ?c45 ?k45 ?a46 ?l46 ?c46 ?k46 ?a47 ?l47 ?c47 ?k47 ?a48 ?l48 ?c48 ?k48 ?a49 ?l49 ?c49 ?k49 ?a50 ?l50 ?c50 ?k50 ?a51 ?l51 ?c51 ?k51 ?aXNoLevel ?q_NoLevel ?aXNoSymbol ?q_NoSymbol ?aILAST_LEVEL ?aB ?lB ?z_len ?z_abs ?z_int ?z_max ?z_min ?z_range ?z_isinstance ?z_bool ?z_tuple ?z_list ?z_str ?z_zip ?z_all ?z_divmod ?z_enumerate ?z_sum ?z_sorted ?z_any ?z_dict ?z_reversed
  (case aCC1=>k_is)
  (case pgC1=>k_is)
  (case hdC1=>k_is)
  (case poC1=>k_is)
  (case saC1=>k_is)
  (case mkC1=>k_is)
  (case kcC1=>k_is)
  (case nC1_modulus=>k_is)
  (case nC1_all_symbols=>k_is)
  (case nC1_pair_numbers=>k_is)
  (case aCC2=>k_is)
  (case pgC2=>k_is)
  (case hdC2=>k_is)
  (case poC2=>k_is)
  (case saC2=>k_is)
  (case mkC2=>k_is)
  (case kcC2=>k_is)
  (case nC2_own_level=>k_is)
  (case nC2_kept_numbers=>k_is)
  (case nC2_settled_numbers=>k_is)
  (case nC2_symbol_rows=>k_is)
  (case a1=>k_is)
  (case l1=>k_is)
  (case c1=>k_is)
  (case k1=>k_is)
  (case a2=>k_is)
  (case l2=>k_is)
  (case c2=>k_is)
  (case k2=>k_is)
  (case a3=>k_is)
  (case l3=>k_is)
  (case c3=>k_is)
  (case k3=>k_is)
  (case a4=>k_is)
  (case l4=>k_is)
  (case c4=>k_is)
  (case k4=>k_is)
  (case a5=>k_is)
  (case l5=>k_is)
  (case c5=>k_is)
  (case k5=>k_is)
  (case a6=>k_is)
  (case i6=>k_is)
  (case l6=>k_is)
  (case c6=>k_is)
  (case k6=>k_is)
  (case a7=>k_is)
  (case i7=>k_is)
  (case l7=>k_is)
  (case c7=>k_is)
  (case k7=>k_is)
  (case a8=>k_is)
  (case i8=>k_is)
  (case l8=>k_is)
  (case c8=>k_is)
  (case k8=>k_is)
  (case a9=>k_is)
  (case i9=>k_is)
  (case l9=>k_is)
  (case c9=>k_is)
  (case k9=>k_is)
  (case a10=>k_is)
  (case l10=>k_is)
  (case c10=>k_is)
  (case k10=>k_is)
  (case a11=>k_is)
  (case l11=>k_is)
  (case c11=>k_is)
  (case k11=>k_is)
  (case a12=>k_is)
  (case l12=>k_is)
  (case c12=>k_is)
  (case k12=>k_is)
  (case a13=>k_is)
  (case l13=>k_is)
  (case c13=>k_is)
  (case k13=>k_is)
  (case a14=>k_is)
  (case l14=>k_is)
  (case c14=>k_is)
  (case k14=>k_is)
  (case a15=>k_is)
  (case l15=>k_is)
  (case c15=>k_is)
  (case k15=>k_is)
  (case a16=>k_is)
  (case l16=>k_is)
  (case c16=>k_is)
  (case k16=>k_is)
  (case a17=>k_is)
  (case l17=>k_is)
  (case c17=>k_is)
  (case k17=>k_is)
  (case a18=>k_is)
  (case l18=>k_is)
  (case c18=>k_is)
  (case k18=>k_is)
  (case a19=>k_is)
  (case l19=>k_is)
  (case c19=>k_is)
  (case k19=>k_is)
  (case a20=>k_is)
  (case l20=>k_is)
  (case c20=>k_is)
  (case k20=>k_is)
  (case a21=>k_is)
  (case l21=>k_is)
  (case c21=>k_is)
  (case k21=>k_is)
  (case a22=>k_is)
  (case l22=>k_is)
  (case c22=>k_is)
  (case k22=>k_is)
  (case a23=>k_is)
  (case l23=>k_is)
  (case c23=>k_is)
  (case k23=>k_is)
  (case a24=>k_is)
  (case l24=>k_is)
  (case c24=>k_is)
  (case k24=>k_is)
  (case a25=>k_is)
  (case l25=>k_is)
  (case c25=>k_is)
  (case k25=>k_is)
  (case a26=>k_is)
  (case i26=>k_is)
  (case l26=>k_is)
  (case c26=>k_is)
  (case k26=>k_is)
  (case a27=>k_is)
  (case i27=>k_is)
  (case l27=>k_is)
  (case c27=>k_is)
  (case k27=>k_is)
  (case a28=>k_is)
  (case i28=>k_is)
  (case l28=>k_is)
  (case c28=>k_is)
  (case k28=>k_is)
  (case a29=>k_is)
  (case i29=>k_is)
  (case l29=>k_is)
  (case c29=>k_is)
  (case k29=>k_is)
  (case a30=>k_is)
  (case i30=>k_is)
  (case l30=>k_is)
  (case c30=>k_is)
  (case k30=>k_is)
  (case a31=>k_is)
  (case l31=>k_is)
  (case c31=>k_is)
  (case k31=>k_is)
  (case a32=>k_is)
  (case l32=>k_is)
  (case c32=>k_is)
  (case k32=>k_is)
  (case a33=>k_is)
  (case l33=>k_is)
  (case c33=>k_is)
  (case k33=>k_is)
  (case a34=>k_is)
  (case l34=>k_is)
  (case c34=>k_is)
  (case k34=>k_is)
  (case a35=>k_is)
  (case l35=>k_is)
  (case c35=>k_is)
  (case k35=>k_is)
  (case a36=>k_is)
  (case i36=>k_is)
  (case l36=>k_is)
  (case c36=>k_is)
  (case k36=>k_is)
  (case a37=>k_is)
  (case l37=>k_is)
  (case c37=>k_is)
  (case k37=>k_is)
  (case a38=>k_is)
  (case l38=>k_is)
  (case c38=>k_is)
  (case k38=>k_is)
  (case a39=>k_is)
  (case l39=>k_is)
  (case c39=>k_is)
  (case k39=>k_is)
  (case a40=>k_is)
  (case l40=>k_is)
  (case c40=>k_is)
  (case k40=>k_is)
  (case a41=>k_is)
  (case l41=>k_is)
  (case c41=>k_is)
  (case k41=>k_is)
  (case a42=>k_is)
  (case l42=>k_is)
  (case c42=>k_is)
  (case k42=>k_is)
  (case a43=>k_is)
  (case l43=>k_is)
  (case c43=>k_is)
  (case k43=>k_is)
  (case a44=>k_is)
  (case l44=>k_is)
  (case c44=>k_is)
  (case k44=>k_is)
  (case a45=>k_is)
  (case l45=>k_is)
  (case c45=>k_is)
  (case k45=>k_is)
  (case a46=>k_is)
  (case l46=>k_is)
  (case c46=>k_is)
  (case k46=>k_is)
  (case a47=>k_is)
  (case l47=>k_is)
  (case c47=>k_is)
  (case k47=>k_is)
  (case a48=>k_is)
  (case l48=>k_is)
  (case c48=>k_is)
  (case k48=>k_is)
  (case a49=>k_is)
  (case l49=>k_is)
  (case c49=>k_is)
  (case k49=>k_is)
  (case a50=>k_is)
  (case l50=>k_is)
  (case c50=>k_is)
  (case k50=>k_is)
  (case a51=>k_is)
  (case l51=>k_is)
  (case c51=>k_is)
  (case k51=>k_is)
  (case aXNoLevel=>k_is)
  (case q_NoLevel=>k_exc)
  (case aXNoSymbol=>k_is)
  (case q_NoSymbol=>k_exc)
  (case aILAST_LEVEL=>k_is)
  (case aB=>k_is)
  (case lB=>k_is)
  (case z_len=>k_is)
  (case z_abs=>k_is)
  (case z_int=>k_is)
  (case z_max=>k_is)
  (case z_min=>k_is)
  (case z_range=>k_is)
  (case z_isinstance=>k_is)
  (case z_bool=>k_is)
  (case z_tuple=>k_is)
  (case z_list=>k_is)
  (case z_str=>k_is)
  (case z_zip=>k_is)
  (case z_all=>k_is)
  (case z_divmod=>k_is)
  (case z_enumerate=>k_is)
  (case z_sum=>k_is)
  (case z_sorted=>k_is)
  (case z_any=>k_is)
  (case z_dict=>k_is)
  (case z_reversed=>k_is)
