import PyProof.Rows.All
import Wide.All
import OpenK.AllK
import Wide.FinOn
import PySem.Challenge.RW_haulbell_k61_counts
import Lean
import PyProof.EqAt
import PyProof.EqKinds
import PyProof.TupleCall
import PyProof.EnumStmt
import PyProof.NeKinds
import PyProof.ExcAttrAll.ValueError
import PyProof.ExcInit
import PyProof.StationsW
import PyProof.NsDelKeeps
import PyProof.InstStoreFacts
import PyProof.ZipIter
import PyProof.IsiBase
import PyProof.AttrMiss
import KE.KDictOf
import KE.KDictList
import PyProof.InstEq
import PyProof.Rows.Range3
import PyProof.EnumMake
import PyProof.StrWalks
import PyProof.DictWalks
import PyProof.Rows.StrWeight2
import PyProof.StrCalls2
import PyProof.Rows.StrFacts2
import PyProof.StrOps2
import KE.LcSums
open PySem.W renaming behindTheImports→ac
open PySem renaming wpAny_bind→ad,wpAny_pure→am,wpAny_field→ap,wpAny_holding→bd,wpAny_truthy_bool→bi,starEach→bm,sizeLine→bn,wpAny_Call_Name_kw→bv
open List renaming length_map→ce,length_append→ci,mem_of_getElem?→cr,length_take→db,mem_cons_of_mem→dl,map_append→dL,length_singleton→f8,size_toArray→ge,mem_append_right→ii,getElem?_map→io,length_drop→jp,append_assoc→le,getElem?_eq_getElem→lf,mem_cons_self→li,mem_cons→lv
open Bool renaming and_eq_true→lw
open Option renaming map_eq_some_iff→mo
open Nat renaming lt_of_lt_of_le→nb,le_of_ble_eq_true→nl,ne_of_lt→nw,le_refl→ol
open Int renaming toNat_natCast→pc
open List renaming replicate→pi,getElem?_eq_some_iff→re
open PySem.Heap renaming get?_push_of_some→sn,lt_size→ss,get?_push_size→sw
set_option linter.all false
set_option maxRecDepth 100000
set_option Elab.async false
set_option compiler.extract_closed false
theorem My.kleA {a b k:Nat}(h:a<=k)(e:Nat.ble (b+1) a=true):b<=k-1:=Nat.le_sub_one_of_lt (nb (nl e) h)
theorem My.kleB {a b k:Nat}(h:a<=k)(e:Nat.ble b a=true):b<=k:=Nat.le_trans (nl e) h
set_option hygiene false
local macro_rules| `(tactic|sleep $n:num)=>`(tactic|((conv at h=>lhs;whnf);iterate $n (split at h;rotate_left;cases h)))
set_option hygiene true
local macro_rules|`(command|abbrev $i:declId $s:optDeclSig $v:declVal)=>`(command|noncomputable def $i:declId $s:optDeclSig $v:declVal)
local macro_rules|`(command|def $i:declId $b:bracketedBinder* :$t $v:declVal)=>`(command|theorem $i:declId $b:bracketedBinder* :$t $v:declVal)
local macro_rules|`(nofun)=>`(by first|exact My.kleA (by assumption) (by rfl)|exact My.kleB (by assumption) (by rfl)|lia|omega)
local macro_rules|`(tactic|omega)=>`(tactic|lia)
noncomputable abbrev My.pr:PySem.Program:=PySem.Challenge.rw_haulbell_k61_counts.row.prog
open PySem PySem.W in
set_option maxHeartbeats 0 in
def My.zk:PySem.Challenge.rw_haulbell_k61_counts.wellSaid=true:=by
  rewrite [Fast.te9446332074065402090]
  kernel_rfl
namespace L2
open PySem PySem.Spec
abbrev inClass (s:Stmt)(j:Nat):Stmt:=match s with
  | .ClassDef _ _ _ body _ _ _ _ _ _ _=>body.getD j (.Pass ⟨0,0,0,0⟩)
  |_=>.Pass ⟨0,0,0,0⟩
abbrev l9 (s:Stmt):Arguments:=match s with
  | .FunctionDef _ a _ _ _ _ _ _ _ _=>a
  |_=>{ posonlyargs:=[],args:=[],vararg:=none,kwonlyargs:=[],kw_defaults:=[],kwarg:=none,defaults:=[] }
abbrev mP (s:Stmt):List Stmt:=match s with
  | .FunctionDef _ _ b _ _ _ _ _ _ _=>b
  |_=>[]
abbrev jB (s:Stmt):Scope:=match s with
  | .FunctionDef _ _ _ _ _ _ sc _ _ _=>sc
  |_=>{ kind:=.function,names:=[],isGenerator:=false,isCoroutine:=false }
end L2
namespace My
open PySem L2 PySem.W
abbrev top (i:Nat):Stmt:=PySem.Challenge.pw_haulbell_k61_counts.main.body.getD i (.Pass ⟨0,0,0,0⟩)
abbrev tq (i j:Nat):Stmt:=inClass (top i) j
/-- the top's run on a tree -/
abbrev gw (tb:String->Option Builtin)(p:Program)(w:World)(m:Nat)(ann:Option Value):Nat->SharedT->Thread->Option SharedT
  |0,_,_=>none
  |n+1,s,t=>match through t with
    |true=>some s
    |false=>match stepOk m ann t with
      |false=>none
      |true=>match stepT (denote tb) p w s t with
        |some r=>gw tb p w m ann n r.1 r.2
        |none=>none
def md {tb:String->Option Builtin}{p:Program}{w:World}{m:Nat}{ann:Option Value}:∀ {n:Nat}{s s':SharedT}{t:Thread},gw tb p w m ann n s t=some s'->topRun tb p w m ann n s.abs t=some s'.abs
  |0,_,_,_,h=>by cases h
  |n+1,s,s',t,h=>by
    unfold gw at h;unfold topRun;cases a:through t
    · rw[a]at h;dsimp only at h⊢
      cases b:stepOk m ann t
      · rw[b]at h;cases h
      · rw[b]at h;dsimp only at h⊢
        cases c:stepT (denote tb) p w s t with
        |none=>rw[c]at h;cases h
        |some r=>rw[c]at h;rw[stepT_spec c];exact md h
    · rw[a]at h;cases h;rfl
abbrev zI:Nat->BT->List Obj->BT
  |_,t,[]=>t
  |n,t,o::os=>zI (n+1) (t.ins n o) os
abbrev o6 (P:Params):BT:=zI 0 .nil (boot_heap P).objs.toList
abbrev AA (P:Params)(os:OsState):SharedT:=⟨o6 P,11,(boot_heap P).life,Array.mk [],boot_drawn,boot_toks,os⟩
def nO {p q:Program}{loose:List Str}{Xt:Shared->Bool}{α:Type}{Yf:Shared->α}{Ya:World->α}{N:Nat}(e:opening p=plainProg p.main.scope.names)(hN:Nat.ble 600 N=true)(f:∀ s,fenceModules? p s=some s)
    (h0:∀ P,absHeap (o6 P) 11 (boot_heap P).life=boot_heap P) (h1:∀ P,((boot_heap P).isNs mainGlobals,(boot_heap P).objs.size,(boot_heap P).nsMap mainGlobals "__annotations__")=(true,11,some (.ref 6)))
    (run:∀ (w:World) (os:OsState),(gw treeTable p w 11 (some (.ref 6)) N (AA w.params os) (topStub p)).map (λs=>(staticsOk (importedModules p.main.body) (boot_heap w.params) s.abs.heap&&namesBound p s.abs.heap&&gensDone s.abs&&laidKept (boot_heap w.params) s.abs.heap,
      openSeen q loose (importedModules p.main.body) Xt true s.abs,Yf s.abs))=some (true,openGood q loose,Ya w)):LeftO p q loose Xt Yf Ya N:=λw=>by
  obtain⟨⟨hp,gs,d,k,os⟩,e1,e2⟩:=mo.mp (boot_open e hN f w);obtain⟨rfl,rfl,rfl,rfl⟩:hp=boot_heap w.params/\gs=Array.mk []/\d=boot_drawn/\k=boot_toks:=by simpa using e2
  obtain⟨z1,z2,z3⟩:_/\_/\_:=by simpa only [Prod.mk.injEq] using h1 w.params
  obtain⟨s,r,l⟩:=mo.mp (run w os);obtain⟨l1,l2,l3⟩:_/\_/\_:=by simpa only [Prod.mk.injEq] using l
  have r1:=md r;have a0:(AA w.params os).abs=⟨boot_heap w.params,Array.mk [],boot_drawn,boot_toks,os⟩:=by
    show(⟨absHeap (o6 w.params) 11 (boot_heap w.params).life,Array.mk [],boot_drawn,boot_toks,os⟩:Shared)=_;rw[h0]
  rw[a0]at r1;unfold openEnds;rw[e1];have t:topFrom treeTable p w N ⟨boot_heap w.params,Array.mk [],boot_drawn,boot_toks,os⟩=some s.abs:=by
    unfold topFrom;dsimp only;rw[z1,z2,z3,r1];show(match staticsOk (importedModules p.main.body) (boot_heap w.params) s.abs.heap&&namesBound p s.abs.heap&&gensDone s.abs&&laidKept (boot_heap w.params) s.abs.heap with|true=>some s.abs|false=>none)=some s.abs;rw[l1]
  show(topFrom treeTable p w N _).map _=_;rw[t];exact congrArg some (Prod.ext l2 l3)
abbrev Av:List Addr:=2::3::30::31::47::48::50::51::66::67::69::70::78::79::80::86::87::93::94::100::101::107::108::117::118::135::136::152::153::168::169::185::186::201::202::218::219::234::235::251::252::267::268::284::285::293::294::300::301::309::315::316::332::333::348::349::358::359::376::377::386::387::399::405::406::415::416::424::425::431::432::438::439::445::446::450::451::464::465::471::472::478::479::492::493::495::496::506::507::530::531::556::557::582::583::608::609::634::635::660::661::669::670::676::677::683::684::690::691::697::698::704::705::709::710::714::715::721::722::728::729::733::734::740::741::747::748::754::755::761::762::768::769::775::776::782::783::[]
abbrev Bl:List Addr:=48::67::79::87::94::101::108::136::169::202::235::268::294::301::316::349::377::406::425::432::439::446::451::465::472::479::493::507::670::677::684::691::698::705::710::715::722::729::734::741::748::755::762::769::776::783::[]
abbrev B0:List Addr:=[31,51,70,118,153,186,219,252,285,333,359,387,416,496,531,557,583,609,635,661]
abbrev runK (tb:String->Option Builtin)(p:Program)(w:World)(m:Nat)(ann:Option Value):Nat->SharedT->Thread->Option (SharedT×Thread)
  |0,s,t=>some (s,t)
  |n+1,s,t=>match through t with
    |true=>none
    |false=>match stepOk m ann t with
      |false=>none
      |true=>match stepT (denote tb) p w s t with
        |some r=>runK tb p w m ann n r.1 r.2
        |none=>none
def cR {tb:String->Option Builtin}{p:Program}{w:World}{m:Nat}{ann:Option Value}{k:Nat}:∀ {n:Nat}{s:SharedT}{t:Thread}{r:SharedT×Thread},runK tb p w m ann n s t=some r->gw tb p w m ann (n+k) s t=gw tb p w m ann k r.1 r.2
  |0,s,t,r,h=>by
    rw[Nat.zero_add];cases h
    rfl
  |n+1,s,t,r,h=>by
    rw[Nat.succ_add];unfold runK at h;conv=>lhs;unfold gw
    cases a:through t
    · rw[a]at h;dsimp only at h⊢
      cases b:stepOk m ann t
      · rw[b]at h;cases h
      · rw[b]at h;dsimp only at h⊢
        cases c:stepT (denote tb) p w s t with
        |none=>rw[c]at h;cases h
        |some r=>rw[c]at h;exact cR h
    · rw[a]at h;cases h
abbrev kT (x y:Str)(s:Stmt):Obj:=⟨.none,none,.func { name:=x,qualname:=y,params:=l9 s,body:=.stmts (mP s),scope:=jB s,globals:=builtinsNs,closure:=[],defaults:=.none,kwdefaults:=.none },#[]⟩
abbrev bo (P:Params)(i:Nat):Obj:=(boot_heap P).objs.toList.getD i ⟨.none,none,.plain,#[]⟩
abbrev ei (p:Program):Env:={ scope:=p.main.scope,locals:=mainNs,globals:=mainNs,cells:=[],code:=.ref 13,frame:=some 14 }
abbrev BH:Frame:=.ret (λx=>Sem.bind (match x with| .ok f=>Sem.pure f| .error e=>Sem.raise e) (λ_=>ret .none)) none false [] (.builtin "claim.caller" {}) default []
abbrev tD (p:Program)(X:List Stmt):Sem Fin:=Sem.bind (Sem.onRaise (execs X (ei p)) (leaving (ei p))) (λa=>Sem.pure (Fin.done a))
abbrev lr (p:Program)(X:List Stmt)(q:Pos):Thread:=⟨tD p X,.body (ac p) (ei p),q,[BH]⟩
def pK {tb:String->Option Builtin}{p:Program}(h:blockStart (ac p) (ei p)=Sem.pure ()):denote tb (.body (ac p) (ei p))=tD p (ac p):=by
  show Sem.bind (blockStart (ac p) (ei p)) (λ_=>tD p (ac p))=_;rw[h]
  rfl
abbrev o0:Obj:=⟨.type "tuple",none,.seq #[] 0,#[]⟩
abbrev oN:Obj:=⟨.none,none,.fields #[],#[]⟩
abbrev oL:List Str->Nat->List Value
  | [],_=>[]
  |x::r,t=>.str x t::oL r (t+1)
abbrev oS (l:List Str)(t:Nat):Obj:=⟨.type "tuple",none,.seq (Array.mk (oL l t)) 0,#[]⟩
abbrev BZ (l:List (Int×Nat)):Array Value:=(l.flatMap λp=>[.int p.1 0,.int 0 0,.ref p.2]).toArray
abbrev BL:List (Int×Nat):=[(1,20),(5,27),(7,40),(12,59),(19,78),(23,86),(25,93),(28,100),(31,107),(34,114),(36,128),(49,161),(62,194),(75,227),(86,260),(99,293),(101,300),(103,307),(117,341),(124,369),(132,397)]
abbrev Co:List (Int×Nat):=BL++[(144,424),(148,431),(156,438),(164,445),(169,450),(171,457),(192,506),(196,513),(203,539),(210,565),(217,591),(224,617),(231,643),(239,669),(245,676),(261,683),(279,690),(294,697),(297,704),(299,709),(307,714),(309,721),(329,728),(336,733),(338,740),(348,747),(353,754),(358,761),(370,768),(381,775)]
abbrev oI (l c a:Nat):Obj:=⟨.none,none,.fields #[.int l 0,.int c 0,.ref a],#[]⟩
abbrev oK (x:Str)(t l r:Nat):Obj:=⟨.type "code",none,.fields #[.str x t,.str x (t+1),.str "/claim/cut.py" (t+2),.int l 0,.int 0 0,.int 0 0,.int 0 0,.int 0 0,.ref r,.bool false,.int 181 0,.ref (r+1),.none,.none,.none,.none,.int (t+3:Nat) 0,.int l 0,.str "/claim/cut.py" (t+4)],#[]⟩
abbrev oC (x y:Str)(t l n r u:Nat):Obj:=⟨.type "code",none,.fields #[.str x t,.str y (t+1),.str "/claim/cut.py" (t+2),.int l 0,.int n 0,.int 0 0,.int 0 0,.int 3 0,.ref r,.bool true,.int 181 0,.ref (r+1),.none,.ref (r+2),.ref (r+3),.ref (r+4),.int u 0,.int l 0,.str "/claim/cut.py" (u+1)],#[]⟩
abbrev oF (x y:Str)(s:Stmt)(m:Str)(t c:Nat)(d:Value:=.none):Obj:=⟨.type "function",none,.func (fnOf x y (l9 s) (mP s) (jB s) d .none .none (.str m t) none (.ref c) .none),#[]⟩
abbrev oR (a b:Nat)(m:Str)(t:Nat):Obj:=⟨.type "frame",none,.plain,#[some (.ref a),some (.ref 3),some (.ref b),none,some (.str m t),none,some (.ref 0)]⟩
abbrev oX (x:Str)(b m:List Value)(n:Addr)(s:List Value)(r t u:Nat)(w:String):Obj:=⟨.type "type",none,.cls ⟨x,b,m,n,x,true,[],s,false,none,false⟩,#[some (.ref r),none,some (.str x t),some (.str x u),some (.builtin w),some (.bool true)]⟩
abbrev oU (a:Addr):Obj:=⟨.type "super",none,.fields #[.ref a,.ref a,.ref a],#[]⟩
abbrev oJ (a:Addr):Obj:=⟨.type "builtin_function_or_method",none,.fields #[.builtin "object.__init_subclass__",.ref a],#[]⟩
abbrev oP:Obj:=⟨.type "builtin_function_or_method",none,.fields #[.builtin "type.__prepare__",.type "type"],#[]⟩
abbrev oQ (a:Addr):Obj:=⟨.type "tuple",none,.seq #[.ref a] 0,#[]⟩
abbrev fG (x y:Str)(s:Stmt)(m:Str)(mt:Nat)(l:List Str)(t ln n a:Nat)(r:List Obj):List Obj:=o0::oN::oS l (t+3)::o0::kT x y s::oC x y t ln n a (t+3+l.length)::oF x y s m mt (a+5)::r
abbrev oW:List (Nat×Obj)->List Obj->List Obj
  | [],l=>l
  |x::r,l=>(oW r l).set x.1 x.2
abbrev eV (x:Str)(t:Tok)(v:Value)(P:Params):DictEntry:=⟨PyData.keyHash P x,.str x t,v⟩
abbrev eM (t:Nat)(m:Str)(u:Nat):Params->DictEntry:=eV "__module__" t (.str m u)
abbrev eQ (t:Nat)(m:Str)(u:Nat):Params->DictEntry:=eV "__qualname__" t (.str m u)
abbrev eF (t l u:Nat):Params->DictEntry:=eV "__firstlineno__" t (.int l u)
abbrev eS (t a:Nat):Params->DictEntry:=eV "__static_attributes__" t (.ref a)
abbrev eN (t:Nat):Params->DictEntry:=eV "__doc__" t .none
abbrev eR (x:Str)(t a:Nat):Params->DictEntry:=eV x t (.ref a)
abbrev oD (P:Params)(es:List (Params->DictEntry))(n:Nat):Obj:=⟨.type "dict",none,.dict (Array.mk (es.map λf=>f P)) n,#[]⟩
abbrev Ci (P:Params):List Obj:=
bo P 0::
bo P 1::
bo P 2::
bo P 3::
bo P 4::
bo P 5::
bo P 6::
bo P 7::
bo P 8::
bo P 9::
bo P 10::
o0::
oN::
oK "<module>" 182 1 11::
oR 13 3 "__main__" 164::[]
abbrev Cu (x y:Str)(t l n r:Nat):Obj:=⟨.type "code",none,.fields #[.str x t,.str y (t+1),.str "/claim/cut.py" (t+2),.int l 0,.int n 0,.int 0 0,.int 0 0,.int 3 0,.ref r,.bool true,.int 181 0,.ref (r+1),.none,.none,.none,.ref (r+2),.int (t+3:Nat) 0,.int l 0,.str "/claim/cut.py" (t+4)],#[]⟩
abbrev oG (x b:String)(v:Value)(a t:Nat):Obj:=⟨.type "getset_descriptor",none,.fields #[.str (Str.ofString x) t,.ref a,.builtin b,v],#[]⟩
@[reducible]def Mt:Type:=Str×Str×List Str×Nat×Nat×List (Obj×Nat)
abbrev vA (a t:Nat)(s:Stmt)(m:Str×Nat)(x y:Str)(l:List Str)(ln n:Nat)(d:Value):List Obj:=match l with
  | []=>o0::oN::kT x y s::Cu x y t ln n a::oF x y s m.1 m.2 (a+3) d::[]
  |_=>o0::oN::oS l (t+3)::o0::kT x y s::oC x y t ln n a (t+3+l.length)::oF x y s m.1 m.2 (a+5) d::[]
abbrev BD (a t:Nat)(s:Stmt)(m:Str×Nat)(q:Mt):List Obj:=match q.2.2.2.2.2 with
  | []=>vA a t s m q.1 q.2.1 q.2.2.1 q.2.2.2.1 q.2.2.2.2.1 .none
  |d::_=>d.1::vA (a+1) (t+d.2) s m q.1 q.2.1 q.2.2.1 q.2.2.2.1 q.2.2.2.2.1 (.ref a)
abbrev uV (q:Mt)(a:Nat):Nat:=match q.2.2.1 with
  | []=>a+5+q.2.2.2.2.2.length
  |_=>a+7+q.2.2.2.2.2.length
abbrev zS (q:Mt)(t:Nat):Nat:=match q.2.2.2.2.2 with
  | []=>t+6+q.2.2.1.length
  |d::_=>t+d.2+6+q.2.2.1.length
abbrev BE (i:Nat)(m:Str×Nat):Nat->List Mt->Nat->Nat->(List Obj->Nat->Nat->List Obj)
  |_,[],_,_=>λr _ _=>r
  |j,q::l,a,t=>λr x y=>BD a t (inClass (top i) j) m q++BE i m (j+1) l (uV q a) (zS q t) r x y
abbrev BF:List Mt->Nat->Nat
  | [],a=>a
  |q::l,a=>BF l (uV q a)
abbrev B4:List Mt->Nat->Nat
  | [],a=>a
  |q::l,a=>B4 l (zS q a)
abbrev BW:List Mt->Nat->Nat->List (Params->DictEntry)->List (Params->DictEntry)
  | [],_,_,r=>r
  |q::l,a,t,r=>eR q.1 (zS q t-1) (uV q a-1)::BW l (uV q a) (zS q t) r
abbrev B1:List Mt->Nat->List Value
  | [],_=>[]
  |q::l,a=>.int q.2.2.2.1 0::.int 4 0::.ref (uV q a-2)::B1 l (uV q a)
@[reducible]def It:Type:=(Params->List Obj)×List (Params->DictEntry)×List Value
abbrev iF (a t i:Nat)(m:Str×Nat)(x:Str)(l:List Str)(ln n:Nat)(d:List (Obj×Nat):=[]):It:=(λ_=>BD a t (top i) m (x,x,l,ln,n,d),eR x (zS (x,x,l,ln,n,d) t-1) (uV (x,x,l,ln,n,d) a-1)::[],.int ln 0::.int 0 0::.ref (uV (x,x,l,ln,n,d) a-2)::[])
abbrev iR (o:Params->List Obj):It:=(o,[],[])
abbrev iE (x:Str)(t:Nat)(v:Value):It:=(λ_=>[],[eV x t v],[])
abbrev iC (a T i:Nat)(m:Str×Nat)(x:Str)(ln:Nat)(ms:List Mt)(st:List Str)(sub:List Value:=[]) (br:Nat:=0) (mro:List Value:=[]) (w:String:=""):It:=
  let b:=BF ms (a+7)
  let s:=B4 ms (T+12)
  let e:=s+st.length
  let h (z:List (Params->DictEntry)):=eF (T+11) ln (T+10)::BW ms (a+7) (T+12) (eS e b::z)
  let o (y:List (Params->DictEntry)) (z k:Obj) (n:Nat) (r:List Obj) (P:Params):List Obj:=z::oP::oD P (eM (T+7) m.1 m.2::eQ (T+9) x (T+8)::h []) (4+ms.length)::o0::⟨.none,none,.fields (Array.mk (B1 ms (a+7))),#[]⟩::oK x (T+2) ln (a+3)::oR (a+5) (a+2) m.1 m.2::BE i m 0 ms (a+7) (T+12) ((match st with| []=>o0|_=>oS st s)::oD P (eM (T+7) m.1 m.2::h y) n::k::r) 0 0
  match br with
  |0=>(o [eR "__dict__" (e+2) (b+3),eR "__weakref__" (e+4) (b+4),eN (e+5)] o0 ⟨.type "type",none,.cls ⟨x,[.type "object"],[.ref (b+2),.type "object"],b+1,x,true,[],sub,false,none,false⟩,#[none,none,some (.str x T),some (.str x (T+8)),some (.builtin "object.__new__"),some (.bool true)]⟩ 4 [oG "__dict__" "function.__dict__" (.builtin "function.__dict__#set") (b+2) (e+1),oG "__weakref__" "ExceptionGroup.__weakref__" .none (b+2) (e+3),oU (b+2),oJ (b+2)],eR x (e+7) (b+2)::[],.int ln 0::.int 0 0::.ref (a+5)::[])
  |_=>(o [eN (e+1)] (oQ br) (oX x [.ref br] (.ref (b+2)::.ref br::mro) (b+1) sub a T (T+8) w) 2 [oU (b+2),oJ (b+2)],eR x (e+3) (b+2)::[],.int ln 0::.int 0 0::.ref (a+5)::[])
abbrev AY (P:Params)(nm:Str)(nt n:Nat)(l:List It):List Obj:=bo P 0::bo P 1::bo P 2::oD P (eV "__name__" 165 (.str nm nt)::eN 166::eV "__package__" 167 .none::eV "__loader__" 168 (.builtin "__main__.__loader__#opaque")::eV "__spec__" 169 .none::eR "__annotations__" 170 6::eR "__builtins__" 171 4::eV "__file__" 173 (.str "/claim/cut.py" 172)::eV "__cached__" 174 .none::l.flatMap (·.2.1)) n::bo P 4::bo P 5::bo P 6::bo P 7::bo P 8::bo P 9::bo P 10::o0::⟨.none,none,.fields (Array.mk (l.flatMap (·.2.2))),#[]⟩::oK "<module>" 182 1 11::oR 13 3 "__main__" 164::l.flatMap (·.1 P)
abbrev Cq:Str×Nat:=("__main__",164)
abbrev BM:Str×Nat:=("haulbell.errors",194)
abbrev Cm:Str×Nat:=("haulbell.wholes",264)
abbrev BI:Str×Nat:=("haulbell.boxes",275)
abbrev uW:Str×Nat:=("haulbell.deeds",298)
abbrev AH:Str×Nat:=("haulbell.hops",547)
abbrev A4:Str×Nat:=("haulbell.items",608)
abbrev xF:Str×Nat:=("haulbell.book",724)
abbrev yr:Str×Nat:=("haulbell.longs",838)
abbrev je:Str×Nat:=("law_haulbell_k61_counts",1032)
abbrev BQ (a T i:Nat)(m:Str×Nat)(x:Str)(ln:Nat)(ms:List Mt)(st:List Str)(sub:List Value:=[]):It:=iC a T i m x ln ms st sub 31 [.type "ValueError",.type "Exception",.type "BaseException",.type "object"] "ValueError.__new__"
abbrev ou (a T i:Nat)(m:Str×Nat)(x:Str)(ln:Nat)(ms:List Mt)(st:List Str)(sub:List Value:=[]):It:=iC a T i m x ln ms st sub 118 [.type "object"] "object.__new__"
abbrev wW:List It:=
iF 15 187 0 Cq "_wall" ["k"] 1 1::
iE "HaulError" 213 (.ref 31)::
iR (λP=>[⟨.type "tuple",none,.seq #[.type "ValueError"] 0,#[]⟩,oP,oD P [eM 203 "haulbell.errors" 194,eQ 205 "HaulError" 204,eF 207 5 206,eS 208 29] 4,o0,oN,oK "HaulError" 198 5 25,oR 27 24 "haulbell.errors" 194,o0,oD P [eM 203 "haulbell.errors" 194,eF 207 5 206,eS 208 29,eR "__weakref__" 210 32,eN 211] 3,oX "HaulError" [.type "ValueError"] [.ref 31,.type "ValueError",.type "Exception",.type "BaseException",.type "object"] 30 [.ref 51,.ref 70] 22 196 204 "ValueError.__new__",⟨.type "getset_descriptor",none,.fields #[.str "__weakref__" 209,.ref 31,.builtin "ExceptionGroup.__weakref__",.none],#[]⟩,oU 31,oJ 31])::
BQ 35 214 3 BM "NoDeed" 7 [("__init__","NoDeed.__init__",["self","word"],9,2,[])] ["word"]::
BQ 54 239 4 BM "NoName" 12 [("__init__","NoName.__init__",["self","word"],14,2,[])] ["word"]::
iE "BOUND" 267 (.int 1000000000 266)::
iF 73 268 7 Cm "is_whole" ["thing"] 19 1::
iE "NAMES" 283 (.ref 80)::
iR (λ_=>[oS ["here","there","left","way","sign","met"] 277])::
iF 81 284 10 BI "is_box" ["thing"] 23 1::
iF 88 291 11 BI "is_number" ["thing"] 25 1::
iF 95 300 13 uW "check_box" ["word","box"] 28 2::
iF 102 308 14 uW "check_number" ["word","number"] 31 2::
iC 109 316 0 uW "Deed" 34 [] [] [.ref 153,.ref 186,.ref 219,.ref 252,.ref 285,.ref 333,.ref 531,.ref 557,.ref 583,.ref 609,.ref 635,.ref 661]::
ou 123 336 16 uW "Set" 36 [("__init__","Set.__init__",["self","box","number"],38,3,[]),("step","Set.step",["self","boxes","store"],44,3,[]),("words","Set.words",["self"],47,1,[])] ["box","number"]::
ou 156 379 17 uW "Add" 49 [("__init__","Add.__init__",["self","box","number"],51,3,[]),("step","Add.step",["self","boxes","store"],57,3,[]),("words","Add.words",["self"],60,1,[])] ["box","number"]::
ou 189 422 18 uW "Take" 62 [("__init__","Take.__init__",["self","box","other"],64,3,[]),("step","Take.step",["self","boxes","store"],70,3,[]),("words","Take.words",["self"],73,1,[])] ["box","other"]::
ou 222 465 19 uW "Read" 75 [("__init__","Read.__init__",["self","box"],77,2,[]),("step","Read.step",["self","boxes","store"],81,3,[]),("words","Read.words",["self"],84,1,[])] ["box"]::
ou 255 506 20 uW "Write" 86 [("__init__","Write.__init__",["self","box"],88,2,[]),("step","Write.step",["self","boxes","store"],92,3,[]),("words","Write.words",["self"],95,1,[])] ["box"]::
iE "MOST_HOPPED" 550 (.int 24 549)::
iF 288 551 23 AH "is_many" ["thing"] 99 1::
iF 295 558 24 AH "is_on" ["thing"] 101 1::
ou 302 565 25 AH "Hop" 103 [("__init__","Hop.__init__",["self","many","on"],105,3,[(⟨.type "tuple",none,.seq #[.none] 0,#[]⟩,0)]),("step","Hop.step",["self","boxes","store"],111,3,[]),("words","Hop.words",["self"],114,1,[])] ["many","on"]::
iC 336 610 27 A4 "Do" 117 [("__init__","Do.__init__",["self","name"],119,2,[]),("told","Do.told",["self"],122,1,[])] ["called"]::
iC 364 646 28 A4 "Times" 124 [("__init__","Times.__init__",["self","many","block"],126,3,[]),("told","Times.told",["self"],130,1,[])] ["block","many"]::
iC 392 684 29 A4 "When" 132 [("__init__","When.__init__",["self","on","block","other"],134,4,[(⟨.type "tuple",none,.seq #[.none] 0,#[]⟩,0)]),("told","When.told",["self"],139,1,[])] ["block","on","other"]::[]
abbrev pZ:List It:=
iE "LETTERS" 727 (.str "abcdefghijklmnopqrstuvwxyz" 726)::
iE "LONGEST_NAME" 729 (.int 8 728)::
iF 421 730 33 xF "is_name" [] 144 1::
iF 426 736 34 xF "check_names" ["book","block","item"] 148 2::
iF 433 745 35 xF "count_item" ["book","item"] 156 2::
iF 440 753 36 xF "count_when" ["book","when","many"] 164 2::
iF 447 762 37 xF "count_block" [] 169 2::
iC 452 768 38 xF "Book" 171 [("__init__","Book.__init__",["self"],173,1,[]),("has","Book.has",["self","word"],177,2,[]),("name","Book.name",["self","word","block"],180,3,[]),("block_named","Book.block_named",["self","word"],187,2,[]),("count_named","Book.count_named",["self","word"],190,2,[])] ["blocks","counts"]::
iF 501 830 39 xF "count_of" ["book","block"] 192 2::
ou 508 840 41 yr "Copy" 196 [("step","Copy.step",["self","boxes","store"],198,3,[]),("words","Copy.words",["self"],201,1,[])] []::
ou 534 872 42 yr "Fill" 203 [("step","Fill.step",["self","boxes","store"],205,3,[]),("words","Fill.words",["self"],208,1,[])] []::
ou 560 904 43 yr "Seek" 210 [("step","Seek.step",["self","boxes","store"],212,3,[]),("words","Seek.words",["self"],215,1,[])] []::
ou 586 936 44 yr "Match" 217 [("step","Match.step",["self","boxes","store"],219,3,[]),("words","Match.words",["self"],222,1,[])] []::
ou 612 968 45 yr "Shift" 224 [("step","Shift.step",["self","boxes","store"],226,3,[]),("words","Shift.words",["self"],229,1,[])] []::
ou 638 1000 46 yr "Turn" 231 [("step","Turn.step",["self","boxes","store"],233,3,[]),("words","Turn.words",["self"],236,1,[])] []::
iF 664 1034 48 je "_law_hand" ["_law_script","_law_cells","_law_fold","_law_cell"] 239 1::
iF 671 1044 49 je "_law_draw" ["_law_hand_here","_law_many","_law_rest","_law_cell","_law_one","_law_two"] 245 2::
iF 678 1056 50 je "_law_spec" ["_law_hand_here","_law_size","_law_way","_law_names","_law_box","_law_pick"] 261 2::
iF 685 1068 51 je "_law_deed" ["_law_spec_here","_law_word"] 279 1::
iF 692 1076 52 je "_law_long" ["_law_word","_law_made"] 294 1::
iF 699 1084 53 je "_law_whole" ["_law_thing"] 297 1::
iF 706 1091 54 je "_law_called" [] 299 2::
iF 711 1097 55 je "_law_nothing" [] 307 1::
iF 716 1103 56 je "_law_block" ["_law_hand_here","_law_told","_law_deep","_law_most","_law_found","_law_some","_law_k","_law_way","_law_pick","_law_many","_law_inner","_law_on","_law_further","_law_block_here"] 309 4::
iF 723 1123 57 je "_law_named" ["_law_hand_here","_law_most","_law_named_here","_law_k","_law_word","_law_block_here"] 329 2::
iF 730 1135 58 je "_law_items" [] 336 1::
iF 735 1141 59 je "_law_item" ["_law_spec_here"] 338 1::
iF 742 1148 60 je "_law_book" ["_law_named_here","_law_book_here","_law_word"] 348 1::
iF 749 1157 61 je "_law_counts" ["_law_named_here","_law_counts_here","_law_word"] 353 1::
iF 756 1166 62 je "_law_count" ["_law_counts_here","_law_block_here","_law_found","_law_item_here"] 358 2::
iF 763 1176 63 je "_law_chain" ["_law_hand_here","_law_counts_here","_law_book_here","_law_many","_law_last","_law_k","_law_word","_law_block_here"] 370 2::
iF 770 1190 64 je "_law_right" ["_law_book_here","_law_counts_here","_law_block_here","_law_handed","_law_found"] 381 3::[]
abbrev Cr (P:Params):List Obj:=oW [(12,⟨.none,none,.fields (BZ BL),#[]⟩),(118,⟨.type "type",none,.cls ⟨"Deed",[.type "object"],[.ref 118,.type "object"],117,"Deed",true,[],[.ref 153,.ref 186,.ref 219,.ref 252,.ref 285,.ref 333],false,none,false⟩,#[none,none,some (.str "Deed" 316),some (.str "Deed" 324),some (.builtin "object.__new__"),some (.bool true)]⟩)] (AY P "haulbell.items" 608 33 wW)
abbrev Ct (P:Params):List Obj:=oW [(12,⟨.none,none,.fields (BZ Co),#[]⟩)] (AY P "law_haulbell_k61_counts" 1032 65 (wW++pZ))
abbrev S0 (P:Params)(os:OsState):SharedT:=⟨zI 0 .nil (Ci P),15,(boot_heap P).life,Array.mk [],boot_drawn,187,os⟩
abbrev q0:Pos:=⟨0,0,0,0⟩
abbrev S1 (P:Params)(os:OsState):SharedT:=⟨zI 0 .nil (Cr P),421,(boot_heap P).life,Array.mk [],boot_drawn,724,os⟩
abbrev q1:Pos:=⟨132,0,140,17⟩
abbrev S2 (P:Params)(os:OsState):SharedT:=⟨zI 0 .nil (Ct P),777,(boot_heap P).life,Array.mk [],boot_drawn,1201,os⟩
abbrev q2:Pos:=⟨381,0,387,66⟩
abbrev B7 (P:Params):List Obj:=AY P "law_haulbell_k61_counts" 1032 66 (wW++pZ++[iF 777 1201 65 je "law" (pi 10 "law") 388 1])
abbrev K0 (P:Params):PySem.W.Frag:=Av.map λa=>(a,(B7 P).getD a oN)
abbrev jw (p:Program):Program:=PySem.W.view p [65]
abbrev rM:List Str:="_wall"::"HaulError"::"NoDeed"::"NoName"::"BOUND"::"is_whole"::"NAMES"::"is_box"::"is_number"::"check_box"::"check_number"::"Deed"::"Set"::"Add"::"Take"::"Read"::"Write"::"MOST_HOPPED"::"is_many"::"is_on"::"Hop"::"Do"::"Times"::"When"::"LETTERS"::"LONGEST_NAME"::"is_name"::"check_names"::"count_item"::"count_when"::"count_block"::"Book"::"count_of"::"Copy"::"Fill"::"Seek"::"Match"::"Shift"::"Turn"::"_law_hand"::"_law_draw"::"_law_spec"::"_law_deed"::"_law_long"::"_law_whole"::"_law_called"::"_law_nothing"::"_law_block"::"_law_named"::"_law_items"::"_law_item"::"_law_book"::"_law_counts"::"_law_count"::"_law_chain"::"_law_right"::[]
end My
open PySem PySem.W in
set_option maxHeartbeats 0 in
def My.xW (w:World)(os:OsState):My.runK treeTable My.pr w 11 (some (.ref 6)) 12 (My.AA w.params os) (topStub My.pr)=some (My.S0 w.params os,⟨denote treeTable (.body (ac My.pr) (My.ei My.pr)),.body (ac My.pr) (My.ei My.pr),default,[My.BH]⟩):=by
  delta My.pr;rewrite[Fast.te2368527892694137696,Fast.te14364793385576792824]
  kernel_rfl
open PySem PySem.W in
set_option maxHeartbeats 0 in
def My.wo (w:World)(os:OsState)(B:List Stmt):My.runK treeTable My.pr w 11 (some (.ref 6)) 3817 (My.S0 w.params os) (My.lr My.pr (((ac My.pr).drop 0).take 30++B) My.q0)=some (My.S1 w.params os,My.lr My.pr B My.q1):=by
  delta My.pr;rewrite[Fast.te2368527892694137696,Fast.te14364793385576792824]
  kernel_rfl
open PySem PySem.W in
set_option maxHeartbeats 0 in
def My.vN (w:World)(os:OsState)(B:List Stmt):My.runK treeTable My.pr w 11 (some (.ref 6)) 2761 (My.S1 w.params os) (My.lr My.pr (((ac My.pr).drop 30).take 35++B) My.q1)=some (My.S2 w.params os,My.lr My.pr B My.q2):=by
  delta My.pr;rewrite[Fast.te2368527892694137696,Fast.te14364793385576792824]
  kernel_rfl
open PySem PySem.W in
set_option maxHeartbeats 0 in
def My.zC:LeftO My.pr (My.jw My.pr) My.rM (λs=>xlAt (My.jw My.pr) [] s&&recOk PySem.Challenge.rw_haulbell_k61_counts.row.records s) (λs=>My.Av.map s.heap.get?) (λw=>(My.K0 w.params).map λp=>some p.2) 13358:=by
  refine My.nO (by kernel_rfl) rfl (λ_=>by kernel_rfl) (λ_=>by kernel_rfl) (λ_=>by kernel_rfl) λw os=>?_
  have d:denote treeTable (.body (ac My.pr) (My.ei My.pr))=My.tD My.pr (ac My.pr):=My.pK (by kernel_rfl);have e:My.gw treeTable My.pr w 11 (some (.ref 6)) (12+(3817+(2761+(6768)))) (My.AA w.params os) (topStub My.pr)=My.gw treeTable My.pr w 11 (some (.ref 6)) 6768 (My.S2 w.params os) (My.lr My.pr ((ac My.pr).drop 65) My.q2):=by
    rw[My.cR (My.xW w os)];dsimp only;rw[d];show My.gw treeTable My.pr w 11 (some (.ref 6)) _ (My.S0 w.params os) (My.lr My.pr ((ac My.pr).drop 0) My.q0)=_;rw[show(ac My.pr).drop 0=((ac My.pr).drop 0).take 30++(ac My.pr).drop 30 from by
      rw[show(ac My.pr).drop 30=((ac My.pr).drop 0).drop 30 by rw[List.drop_drop],List.take_append_drop],My.cR (My.wo w os _)]
    rw[show(ac My.pr).drop 30=((ac My.pr).drop 30).take 35++(ac My.pr).drop 65 from by
      rw[show(ac My.pr).drop 65=((ac My.pr).drop 30).drop 35 by rw[List.drop_drop],List.take_append_drop],My.cR (My.vN w os _)]
  rw[show(13358:Nat)=12+(3817+(2761+(6768))) from rfl,e]
  delta My.pr;rewrite[Fast.te4187177175401517315,Fast.te5923862056798008813,Fast.te2368527892694137696,Fast.te14364793385576792824]
  kernel_rfl
set_option Elab.async false
open List(mem_filter mem_range filterMap_cons mem_cons_self mem_cons_of_mem mem_cons mem_append mem_append_left getElem?_set_self getElem?_set_ne mem_append_right size_toArray any_eq_false length_cons map_cons length_map append_nil nodup_cons of_mem_zip length_take getElem?_append_right getElem?_append_left getElem?_map take_sublist mem_of_getElem? length_append length_drop length_set all_cons any_cons replicate_succ flatten_cons append_assoc foldl_cons length_singleton nil_append find?_cons cons_append forIn_cons forIn_nil getElem?_eq_getElem drop_zero lookup_cons take_of_length_le all_eq_true not_mem_nil length_eq_zero_iff length_range zip_cons_cons zip_append nodup_append take_append_drop isEmpty_iff take_succ map_append any_eq_true sum_cons mem_singleton)
@[reducible]def CB:Type:=Unit->PySem.Shared->Prop
@[reducible]def CC:Type:=PySem.Value->PySem.Shared->Prop
@[reducible]def CD:Type:=List (PySem.Addr×PySem.Obj)
@[reducible]def CF:Type:=PySem.Str->Option PySem.Value
namespace L2
open PySem PySem.Spec PyProof.Rows
@[reducible]def Key:=Sum Int Str
abbrev hU:Key->Value->Bool
 | .inl k,v=>Value.isInt k v
 | .inr x,v=>Value.isStrOf x v
abbrev BB (w:World):Key->Int
 | .inl k=>hashInt k
 | .inr x=>hashStr w x
def ak:∀ {k:Key}{v:Value},hU k v=true->(∃ i t,k=Sum.inl i/\v=Value.int i t)\/(∃ x t,k=Sum.inr x/\v=Value.str x t)
 | .inl i,v,h=>by
  obtain⟨t,e⟩:=Value.isInt_shape (k:=i) (v:=v) h;exact .inl ⟨i,t,rfl,e⟩
 | .inr x,v,h=>by
  obtain⟨t,e⟩:=Value.isStrOf_shape (x:=x) (v:=v) h;exact .inr ⟨x,t,rfl,e⟩
def nP (i:Int)(t:Tok):hU (.inl i) (.int i t)=true:=by simp[hU,Value.isInt]
def m9 (x:Str)(t:Tok):hU (.inr x) (.str x t)=true:=by simp[hU,Value.isStrOf]
def xt (a b:Int):decide ((Sum.inl a:Key)=Sum.inl b)=(a ==b):=by
 by_cases e:a=b
 .subst e;simp
 .have h:¬ (Sum.inl a:Key)=Sum.inl b:=λq=>e (Sum.inl.inj q)
  rw[decide_eq_false h];exact(beq_eq_false_iff_ne.mpr e).symm
def xA (a b:Str):decide ((Sum.inr a:Key)=Sum.inr b)=decide (a=b):=by
 by_cases e:a=b
 .subst e;simp
 .have h:¬ (Sum.inr a:Key)=Sum.inr b:=λq=>e (Sum.inr.inj q)
  rw[decide_eq_false h,decide_eq_false e]
def yn (a:Int)(b:Str):decide ((Sum.inl a:Key)=Sum.inr b)=false:=decide_eq_false (λq=>nomatch q)
def yd (a:Str)(b:Int):decide ((Sum.inr a:Key)=Sum.inl b)=false:=decide_eq_false (λq=>nomatch q)
abbrev aw (prog:Program)(w:World):PySem.KeyKind prog w Key where
 is:=hU
 hash:=BB w
 inj:=λv a b ha hb=>by
  rcases ak ha with⟨i,t,rfl,rfl⟩|⟨x,t,rfl,rfl⟩
  .rcases ak hb with⟨j,u,rfl,e⟩|⟨y,u,rfl,e⟩
   .injection e with e1 _;rw[e1]
   .exact nomatch e
  .rcases ak hb with⟨j,u,rfl,e⟩|⟨y,u,rfl,e⟩
   .exact nomatch e
   .injection e with e1 _;rw[e1]
 byValue:=λk v h=>by
  rcases ak h with⟨i,t,rfl,rfl⟩|⟨x,t,rfl,rfl⟩<;>rfl
 pyHash:=λhv h=>by
  rcases ak hv with⟨i,t,rfl,rfl⟩|⟨x,t,rfl,rfl⟩
  .exact wpAny_pyHash_int h
  .exact wpAny_pyHash_str h
 eqBool:=λhu hv h=>by
  rcases ak hu with⟨i,t,rfl,rfl⟩|⟨x,t,rfl,rfl⟩
  .rcases ak hv with⟨j,u,rfl,rfl⟩|⟨y,u,rfl,rfl⟩
   .rw[xt]at h;exact wpAny_eqBool_int h
   .rw[yn]at h;exact SeqAt.EqAt.int_str i t y u _ _ _ _ h
  .rcases ak hv with⟨j,u,rfl,rfl⟩|⟨y,u,rfl,rfl⟩
   .rw[yd]at h;exact SeqAt.EqAt.str_int x t j u _ _ _ _ h
   .rw[xA]at h;exact wpAny_eqBool_str h
 «strs»:=λk x t v h=>by
  rcases ak h with⟨i,u,rfl,e⟩|⟨y,u,rfl,e⟩
  .exact nomatch e
  .injection e with e1 _
   subst e1;cases v<;>rfl
def ki (prog:Program)(w:World)(i:Int)(t:Tok):(aw prog w).is (.inl i) (.int i t)=true:=nP i t
def j7 (prog:Program)(w:World)(x:Str)(t:Tok):(aw prog w).is (.inr x) (.str x t)=true:=m9 x t
inductive V where
 |non|bl (b:Bool)|int (i:Int)|str (x:Str)|byt (b:Array UInt8)|flt (b:UInt64)|ref (a:Addr)|ty (n:String)
 deriving DecidableEq
abbrev RelV:V->Value->Prop
 | .non,u=>u=Value.none
 | .bl b,u=>u=Value.bool b
 | .int i,u=>∃ t,u=Value.int i t
 | .str x,u=>∃ t,u=Value.str x t
 | .byt b,u=>∃ t,u=Value.bytes b t
 | .flt b,u=>∃ t,u=Value.float b t
 | .ref a,u=>u=Value.ref a
 | .ty n,u=>u=Value.type n
@[reducible]def Vals:List V->List Value->Prop:=Paired RelV
variable {xs:List V}{us:List Value}
def Vals.length (r:Vals xs us):xs.length=us.length:=Paired.length r
def Vals.get:∀ {xs:List V}{us:List Value}{i:Nat}{x:V},Vals xs us->xs[i]? =some x->∃ u,us[i]? =some u/\RelV x u
 |_,_,_,_,.nil,e=>by simp at e
 |_,_,0,_,.cons r _,e=>by simp at e;subst e;exact⟨_,rfl,r⟩
 |_,_,i+1,x,.cons _ t,e=>by
  obtain⟨u,h1,h2⟩:=Vals.get (i:=i) (x:=x) t (by simpa using e);exact⟨u,by simpa using h1,h2⟩
variable {u:Value}
def Vals.set {x:V}(r:RelV x u):∀ {xs:List V}{us:List Value}(i:Nat),Vals xs us->Vals (xs.set i x) (us.set i u)
 |_,_,_,.nil=>.nil
 |_,_,0,.cons _ t=>.cons r t
 |_,_,i+1,.cons q t=>.cons q (Vals.set r i t)
def Vals.append:∀ {xs ys:List V}{us ws:List Value},Vals xs us->Vals ys ws->Vals (xs++ys) (us++ws)
 |_,_,_,_,.nil,s=>s
 |_,_,_,_,.cons r t,s=>.cons r (Vals.append t s)
def Vals.take:∀ {xs:List V}{us:List Value}(n:Nat),Vals xs us->Vals (xs.take n) (us.take n)
 |_,_,0,_=>.nil
 |_,_,_+1,.nil=>.nil
 |_,_,n+1,.cons r t=>.cons r (Vals.take n t)
def Vals.drop:∀ {xs:List V}{us:List Value}(n:Nat),Vals xs us->Vals (xs.drop n) (us.drop n)
 |_,_,0,r=>r
 |_,_,_+1,.nil=>.nil
 |_,_,n+1,.cons _ t=>Vals.drop n t
abbrev bC:Option V->Option Value->Prop
 |some v,some u=>RelV v u
 |none,none=>True
 |_,_=>False
abbrev KV {κ:Type}:List (κ×V)->List (κ×Value)->Prop:=Paired λ(p:κ×V) (q:κ×Value)=>p.1=q.1/\RelV p.2 q.2
abbrev kV:Key->V
 | .inl i=>.int i
 | .inr x=>.str x
inductive HO where
  |lst (xs:List V)
  |tup (xs:List V)
  |dK (kvs:List (Key×V))|dT (kvs:List (List Key×V))
  |set (S:Int->Bool) (n:Nat)
  |ins (C dx:Addr) (fs:List (Str×V))
  |own (x:Addr)
  |exc (C:Addr) (dx:Option Addr) (fs:List (Str×V)) (fr:Bool)
  |xd (fs:List (Str×V))
  |met (f x:Addr)
  |rng (lo hi:Int)
  |aP (o:Obj) (u:HO)
  |tbl (ps:Array Value)
  |ext (φ:Heap->Prop)
@[reducible]def Hp:=Addr->Option HO
abbrev upd (H:Hp)(a:Addr)(o:HO):Hp:=λb=>if b=a then some o else H b
variable {H:Hp}{a:Addr}{o:HO}
def ah:upd H a o a=some o:=by unfold upd;rw[if_pos rfl]
variable {b:Addr}
def af (h:b≠a):upd H a o b=H b:=by unfold upd;rw[if_neg h]
def tW {u:HO}:upd (upd H a o) a u=upd H a u:=by
 funext b;unfold upd;split<;>rfl
def zm {u:HO}(h:H a=some o)(h':H b=some u)(d:o≠u):a≠b:=by
 intro e;subst e;rw[h]at h';exact d (Option.some.inj h')
def bb (h:H a=some o)(h':H b=none):a≠b:=by
 intro e;subst e;rw[h]at h';cases h'
section
variable (P:Program) (w:World)
abbrev aj (H:Hp)(h:Heap)(a:Addr):HO->Prop
 | .lst xs=>xs.length<=bn/\∃ (its:List Value) (n:Nat),Vals xs its/\h.get? a=some { cls:=.type "list",data:=.seq its.toArray n }
 | .tup xs=>xs.length<=bn/\∃ its:List Value,Vals xs its/\IsTup h a its.toArray
 | .dK kvs=>kvs.length<=bn/\(a ==sysModules)=false/\∃ vs,KV kvs vs/\h.DictOf (aw P w) a vs
 | .dT kvs=>kvs.length<=bn/\(a ==sysModules)=false/\∃ xs:List (List Key×Addr×Value),
   Paired (λ(p:List Key×V) (q:List Key×Addr×Value)=>p.1=q.1/\H q.2.1=some (.tup (p.1.map kV))/\RelV p.2 q.2.2) kvs xs/\
   ∃ o es ep,h.get? a=some o/\o.ExactDict/\o.data=.dict es ep/\es.toList=xs.map (entryOfKey (tupleKind (aw P w)))/\(xs.map (·.1)).Nodup
 | .set S n=>h.SetOf (intKind P w) a S n
 | .ins C dx fs=>H dx=some (.own a)/\fs.length<=1000/\dx≠a/\h.get? a=some (W.instObj C dx)/\
   ∃ mA,h.Ns1 dx mA/\(∀ f,bC (fs.lookup f) (mA f))/\PySem.Within mA (fs.map (·.1))
 | .exc C dx fs fr=>(∃ vs,h.get? a=some { cls:=.ref C,dict:=dx,data:=.fields vs }/\vs.size=6/\(fr=true->vs[1]? =some Value.none))/\
   ((dx=none/\fs=[])\/∃ d,dx=some d/\H d=some (.own a)/\fs.length<=1000/\d≠a/\∃ mA,h.Ns1 d mA/\(∀ f,bC (fs.lookup f) (mA f))/\PySem.Within mA (fs.map (·.1)))
 | .own _=>∃ o,h.get? a=some o
 | .xd fs=>∃ mA,h.Ns1 a mA/\∀ f,bC (fs.lookup f) (mA f)
 | .rng lo hi=>∃ t u v,h.get? a=some { cls:=.type "range",data:=.fields #[.int lo t,.int hi u,.int 1 v] }
 | .aP o u=>h.get? a=some o/\aj H h a u
 | .tbl ps=>h.get? a=some { cls:=.none,data:=.fields ps }
 | .met f x=>h.get? a=some (W.methodObj (.ref f) (.ref x))
 | .ext φ=>φ h/\(∃ o,h.get? a=some o)/\∀ h1 h2:Heap,φ h1->(∀ o,h1.get? a=some o->h2.get? a=some o)->φ h2
abbrev c4 (H:Hp)(h:Heap):Prop:=∀ a o,H a=some o->aj P w H h a o
end
section
variable {P:Program}{w:World}{H H':Hp}{h h':Heap}{a:Addr}{o:HO}
def aj.lt (x:aj P w H h a o):a<h.objs.size:=by
 cases o with
 |lst xs=>obtain⟨_,_,_,_,e⟩:=x;exact ss e
 |tup xs=>obtain⟨_,_,_,p⟩:=x;exact p.lt
 |dK kvs=>obtain⟨_,_,_,_,o,_,_,e,_⟩:=x;exact ss e
 |dT kvs=>obtain⟨_,_,_,_,o,_,_,e,_⟩:=x;exact ss e
 |set S n=>obtain⟨o,_,_,_,e,_⟩:=x;exact ss e
 |ins C dx fs=>obtain⟨_,_,_,e,_⟩:=x;exact ss e
 |exc C dx fs fr=>obtain⟨⟨_,e,_⟩,_⟩:=x;exact ss e
 |own y=>obtain⟨_,e⟩:=x;exact ss e
 |xd fs=>obtain⟨_,⟨_,_,_,e,_⟩,_⟩:=x;exact ss e
 |rng lo hi=>obtain⟨_,_,_,e⟩:=x;exact ss e
 |aP ob u=>obtain⟨e,_⟩:=x;exact ss e
 |tbl ps=>exact ss (show h.get? a=some _ from x)
 |met f y=>exact ss (show h.get? a=some _ from x)
 |ext φ=>obtain⟨_,⟨_,e⟩,_⟩:=x;exact ss e
def Paired.wt {α β:Type}{F G:α->β->Prop}:∀ {l₁:List α}{l₂:List β},Paired F l₁ l₂->(∀ a b,F a b->G a b)->Paired G l₁ l₂
 |_,_,.nil,_=>.nil
 |_,_,.cons r t,f=>.cons (f _ _ r) (Paired.wt t f)
def aj.du (x:aj P w H h a o)(k:∀ b u,(b=a\/H b=some (.own a))->h.get? b=some u->h'.get? b=some u)
  (ho:∀ b,H b=some (.own a)->H' b=some (.own a)) (ht:∀ b xs,H b=some (.tup xs)->H' b=some (.tup xs)):aj P w H' h' a o:=by
 induction o with
 |lst xs=>obtain⟨z,its,n,r,e⟩:=x;exact⟨z,its,n,r,k _ _ (.inl rfl) e⟩
 |tup xs=>obtain⟨z,its,r,ob,e,c⟩:=x;exact⟨z,its,r,ob,k _ _ (.inl rfl) e,c⟩
 |dK kvs=>obtain⟨z,y,vs,r,ob,es,ep,e,c⟩:=x;exact⟨z,y,vs,r,ob,es,ep,k _ _ (.inl rfl) e,c⟩
 |dT kvs=>
  obtain⟨z,y,xs,r,ob,es,ep,e,c⟩:=x;exact⟨z,y,xs,Paired.wt r λp q z=>⟨z.1,ht _ _ z.2.1,z.2.2⟩,ob,es,ep,k _ _ (.inl rfl) e,c⟩
 |set S n=>obtain⟨ob,es,ep,t,e,c⟩:=x;exact⟨ob,es,ep,t,k _ _ (.inl rfl) e,c⟩
 |ins C dx fs=>
  obtain⟨d,z,ne,e,mA,⟨od,es,ep,e2,c⟩,r⟩:=x;exact⟨ho _ d,z,ne,k _ _ (.inl rfl) e,mA,⟨od,es,ep,k _ _ (.inr d) e2,c⟩,r⟩
 |exc C dx fs fr=>
  obtain⟨⟨vs,e,z⟩,q⟩:=x;refine⟨⟨vs,k _ _ (.inl rfl) e,z⟩,?_⟩;rcases q with q|⟨d,ed,d1,z1,ne,mA,⟨od,es,ep,e2,c⟩,r⟩
  .exact .inl q
  .exact .inr ⟨d,ed,ho _ d1,z1,ne,mA,⟨od,es,ep,k _ _ (.inr d1) e2,c⟩,r⟩
 |own y=>obtain⟨ob,e⟩:=x;exact⟨ob,k _ _ (.inl rfl) e⟩
 |xd fs=>obtain⟨mA,⟨od,es,ep,e,c⟩,r⟩:=x;exact⟨mA,⟨od,es,ep,k _ _ (.inl rfl) e,c⟩,r⟩
 |rng lo hi=>obtain⟨t,u,v,e⟩:=x;exact⟨t,u,v,k _ _ (.inl rfl) e⟩
 |aP ob u ih=>obtain⟨e,q⟩:=x;exact⟨k _ _ (.inl rfl) e,ih q⟩
 |tbl ps=>
  have e:h.get? a=some { cls:=.none,data:=.fields ps }:=x;show h'.get? a=some { cls:=.none,data:=.fields ps };exact k a _ (.inl rfl) e
 |met f y=>
  have e:h.get? a=some (W.methodObj (.ref f) (.ref y)):=x;show h'.get? a=some (W.methodObj (.ref f) (.ref y));exact k a _ (.inl rfl) e
 |ext φ=>obtain⟨p,⟨o,e⟩,st⟩:=x;exact⟨st _ _ p λo q=>k _ _ (.inl rfl) q,⟨o,k _ _ (.inl rfl) e⟩,st⟩
def c4.lt (x:c4 P w H h)(e:H a=some o):a<h.objs.size:=(x a o e).lt
def c4.fresh (x:c4 P w H h)(e:h.objs.size<=a):H a=none:=by
 cases q:H a with
 |none=>rfl
 |some u=>exact absurd (nb (x.lt q) e) (Nat.lt_irrefl _)
def c4.kept (x:c4 P w H h)(k:∀ b u,h.get? b=some u->h'.get? b=some u):c4 P w H h':=λa o e=>
 (x a o e).du (λb u _ q=>k b u q) (λ_ q=>q) λ_ _ q=>q
def c4.laid (x:c4 P w H h)(k:∀ b u,h.get? b=some u->h'.get? b=some u) (hp:h.objs.size<=a) (new:aj P w (upd H a o) h' a o):c4 P w (upd H a o) h':=λb u e=>by
 have hn:=x.fresh hp
 by_cases hb:b=a
 .subst hb;rw[ah]at e;cases e;exact new
 .rw[af hb]at e;exact(x b u e).du (λc v _ q=>k c v q) (λc q=>by rw[af (bb q hn)];exact q) λc xs q=>by rw[af (bb q hn)];exact q
end
abbrev Rd (H:Hp)(a:Addr)(u:HO):Prop:=H a=some u\/∃ o,H a=some (.aP o u)
variable {P:Program}{w:World}{h:Heap}
def Rd.ok {u:HO}(r:Rd H a u)(x:c4 P w H h):aj P w H h a u:=by
 rcases r with r|⟨o,r⟩
 .exact x a u r
 .obtain⟨_,q⟩:=x a _ r;exact q
abbrev zK:Option HO->Prop
 |some (.lst _)=>True
 |some (.dK _)=>True
 |some (.dT _)=>True
 |some (.set _ _)=>True
 |some (.ins _ _ _)=>True
 |some (.exc _ _ _ _)=>True
 |some (.ext _)=>True
 |_=>False
section
variable {P:Program}{w:World}{H:Hp}{h h':Heap}{x e:Addr}{o':HO}
def c4.write (ok:c4 P w H h)(mu:zK (H x))(he:e=x\/H e=some (.own x))(k:∀ b u,b≠e->h.get? b=some u->h'.get? b=some u) (heo:∃ u,h'.get? e=some u)
  (new:aj P w (upd H x o') h' x o'):c4 P w (upd H x o') h':=λb u q=>by
 have nown:∀ c y,H c=some (.own y)->c≠x:=λc y r z=>by subst z;rw[r]at mu;exact mu
 have ntup:∀ c xs,H c=some (.tup xs)->c≠x:=λc xs r z=>by subst z;rw[r]at mu;exact mu
 by_cases hb:b=x
 .subst hb;rw[ah]at q;cases q;exact new
 .rw[af hb]at q
  by_cases hbe:b=e
  .have q':H b=some (.own x):=by
    rcases he with z|z
    .exact absurd (hbe.trans z) hb
    .rw[hbe];exact z
   rw[q]at q';cases q';obtain⟨v,hv⟩:=heo;exact⟨v,by rw[hbe];exact hv⟩
  .refine(ok b u q).du (λc v hc r=>k c v ?_ r) (λc r=>by rw[af (nown c b r)];exact r) λc xs r=>by rw[af (ntup c xs r)];exact r
   rcases hc with rfl|hc
   .exact hbe
   .rintro rfl;rcases he with z|z
    .exact nown c b hc z
    .rw[hc]at z;cases z;exact hb rfl
end
structure Un (fs ex:List Addr) (H H':Hp) (h h':Heap):Prop where
 keep:∀ b o,h.get? b=some o->H b=none->b ∉ fs->b ∉ ex->h'.get? b=some o
 slot:∀ b o,h.get? b=some o->H b=none->b ∈ fs->b ∉ ex->∃ sl,h'.get? b=some { o with slots:=sl }
 free:∀ b o,h.get? b=some o->H b=none->b ∉ ex->H' b=none
 there:∀ b o,h.get? b=some o->b ∉ ex->∃ o',h'.get? b=some o'
 tups:∀ b xs,H b=some (.tup xs)->H' b=some (.tup xs)
 frzs:∀ b o u,H b=some (.aP o u)->H' b=some (.aP o u)
 tbls:∀ b ps,H b=some (.tbl ps)->∃ more,H' b=some (.tbl (ps++more))
section
variable {fs fs' ex ex':List Addr}{H H1 H2:Hp}{h h1 h2 h':Heap}{a x e:Addr}{o:HO}
def Un.any (u:Un fs ex H H1 h h1){ob:Obj}(q:h.get? b=some ob)(n:H b=none)(hx:b ∉ ex):∃ sl,h1.get? b=some { ob with slots:=sl }:=by
 by_cases hb:b ∈ fs
 .exact u.slot b ob q n hb hx
 .exact⟨ob.slots,u.keep b ob q n hb hx⟩
def Un.kept (k:∀ b u,h.get? b=some u->h'.get? b=some u):Un fs ex H H h h':=
 ⟨λb ob q _ _ _=>k b ob q,λb ob q _ _ _=>⟨ob.slots,k b ob q⟩,λ_ _ _ n _=>n,λb ob q _=>⟨ob,k b ob q⟩,λ_ _ q=>q,λ_ _ _ q=>q,λ_ ps q=>⟨#[],by rw[q];simp⟩⟩
def Un.refl:Un fs ex H H h h:=Un.kept λ_ _ q=>q
def Un.laid (k:∀ b u,h.get? b=some u->h'.get? b=some u) (hp:h.objs.size<=a) (hn:H a=none):Un fs ex H (upd H a o) h h' where
 keep:=λb u q _ _ _=>k b u q
 slot:=λb u q _ _ _=>⟨u.slots,k b u q⟩
 free:=λb u q n _=>by rw[af (nw (nb (ss q) hp))];exact n
 there:=λb u q _=>⟨u,k b u q⟩
 tups:=λb xs q=>by rw[af (bb q hn)];exact q
 frzs:=λb u xs q=>by rw[af (bb q hn)];exact q
 tbls:=λb ps q=>⟨#[],by rw[af (bb q hn),q];simp⟩
def Un.write (mu:zK (H x))(he:e=x\/H e=some (.own x))(k:∀ b u,b≠e->h.get? b=some u->h'.get? b=some u) (heo:∃ u,h'.get? e=some u):Un fs ex H (upd H x o) h h':=by
 have hx:∀ b,H b=none->b≠x:=λb n z=>by subst z;rw[n]at mu;exact mu
 have hb:∀ b,H b=none->b≠e:=λb n z=>by
  subst z;rcases he with r|r
  .exact hx b n r
  .rw[n]at r;cases r
 have hm:∀ b u,H b=some u->¬ zK (some u)->b≠x:=λb u q nm z=>by subst z;rw[q]at mu;exact nm mu
 refine⟨λb u q n _ _=>k b u (hb b n) q,λb u q n _ _=>⟨u.slots,k b u (hb b n) q⟩,λb u q n _=>by rw[af (hx b n)];exact n,λb u q _=>?_,
  λb xs q=>by rw[af (hm b _ q λz=>z)];exact q,λb u xs q=>by rw[af (hm b _ q λz=>z)];exact q,λb ps q=>⟨#[],by rw[af (hm b _ q λz=>z),q];simp⟩⟩
 by_cases hbe:b=e
 .subst hbe;exact heo
 .exact⟨u,k b u hbe q⟩
end
abbrev uQ (h:Heap)(H:Hp):List Addr:=(List.range h.objs.size).filter λa=>(H a).isSome
abbrev iI (h:Heap)(H:Hp):Heap:=W.hideAll h (uQ h H)
def nr (h:Heap)(H:Hp):(iI h H).objs.size=h.objs.size:=W.hideAll_size _ _
def o9 {o:Obj}(e:h.get? b=some o)(n:H b=none):(iI h H).get? b=some o:=
 W.hideAll_get _ e λhm=>by
  have q:(H b).isSome=true:=(mem_filter.mp hm).2;rw[n]at q;simp at q
def tB {o:Obj}(e:(iI h H).get? b=some o):h.get? b=some o/\H b=none:=by
 have e':h.get? b=some o:=W.of_hideAll (uQ h H) e;refine⟨e',?_⟩;cases q:H b with
 |none=>rfl
 |some x=>
  have hm:b ∈ uQ h H:=mem_filter.mpr ⟨mem_range.mpr (ss e'),by simp[q]⟩;have z:(iI h H).get? b=none:=W.hideAll_none (uQ h H) hm;rw[z]at e;cases e
structure Mod (K:W.Frag) (mg:CF) (base:Heap):Prop where
 kin:K.In base
 glob:base.Ns mainGlobals mg
 blt:∃ mb,base.Ns builtinsNs mb/\∀ x:Str,x≠"__name__"->mb x=bootBuiltins x
 nolimit:base.NoLimit
/-- the context:a def's body (or a comprehension's block) running. base:fixed through the whole law;s₀,H₀:the entry;outer:the frames whose slots others may change (a def's callers);stack:all frames that run;
  ex:iterators that were made ahead of the entry and are walked here (a comprehension's);fn:the names whose cells were made at the entry (a def:all;a comprehension's block:its own);calm:not within an except aK;pn:Y that every state bears;xe:what is wanted of an exception that leaves the code -/
structure Cx where
 prog:Program
 w:World
 K:W.Frag
 mg:Str->Option Value
 base:Heap
 A:Around
 N:List Str
 s₀:Shared
 H₀:Hp
 env:Env
 outer:List Env
 stack:List Env
 ex:List Addr
 fn:Str->Bool
 calm:Bool
 pn:List (Addr×Obj)
 xe:Value->Shared->Prop
abbrev iY (l:List Env):List Addr:=l.filterMap (·.frame)
noncomputable abbrev Cx.fs (X:Cx):List Addr:=iY X.outer
abbrev yD (sc:Scope)(x:Str):Prop:=sc.names.lookup x=some .local\/sc.names.lookup x=some .cell\/sc.names.lookup x=some .free
abbrev Loc (sc:Scope)(x:Str):Prop:=sc.names.lookup x=some .local\/sc.names.lookup x=some .cell
abbrev Look (env:Env)(h:Heap)(m:CF)(x:Str)(u:Value):Prop:=
 (env.kindOf x=some .local/\m x=some u)\/((env.kindOf x=some .cell\/env.kindOf x=some .free)/\∃ c,env.cells.lookup x=some c/\h.IsCell c (some u))
structure Cx.Ok (X:Cx):Prop where
 mod:Mod X.K X.mg X.base
 kind:X.env.scope.kind=.function
 glob:X.env.globals=mainGlobals
 blt:X.env.builtins=builtinsNs
 above:X.s₀.heap.objs.size<=X.env.locals
 inj:∀ x y c,X.env.cells.lookup x=some c->X.env.cells.lookup y=some c->x=y
 has:∀ x,(X.env.kindOf x=some .cell\/X.env.kindOf x=some .free)->∃ c,X.env.cells.lookup x=some c
 cab:∀ x c,X.fn x=true->X.env.cells.lookup x=some c->X.s₀.heap.objs.size<=c
 hd:X.calm=true->X.A.handled=none
 frames:X.A.frames=some X.stack
 stk:X.stack=X.outer\/(X.stack=X.env::X.outer/\X.env.frame=some X.env.locals)
 exf:∀ b ∈ X.ex,b≠X.env.locals/\∀ x c,X.env.cells.lookup x=some c->c≠b
 bs:∀ b o,X.base.get? b=some o->X.s₀.heap.get? b=some o/\X.H₀ b=none
 bsz:X.base.objs.size<=X.s₀.heap.objs.size
 noex:∀ b o,X.base.get? b=some o->b ∉ X.ex
 exfs:∀ b ∈ X.ex,b ∉ X.fs
 gk:X.s₀.heap.FunFrames X.base X.outer
 frf:∀ b ∈ X.fs,X.H₀ b=none
structure Inv (X:Cx) (Y:CD) (U:List (Option V)) (H:Hp) (s:Shared):Prop where
 ok:X.Ok
 os:s.os=X.s₀.os
 bare:AllBare s.gens
 base:Un X.fs X.ex X.H₀ H X.s₀.heap s.heap
 loc:∃ m,s.heap.Ns X.env.locals m/\∀ (i:Nat) (x:Str) (v:V),X.N[i]? =some x->U[i]? =some (some v)->yD X.env.scope x->∃ u,RelV v u/\Look X.env s.heap m x u
 cell:∀ x c,X.env.cells.lookup x=some c->∃ v,s.heap.IsCell c v
 free:H X.env.locals=none
 freeC:∀ x c,X.env.cells.lookup x=some c->H c=none
 pin:∀ p ∈ X.pn++Y,s.heap.get? p.1=some p.2/\H p.1=none/\p.1≠X.env.locals/\p.1 ∉ X.fs/\∀ v,p.2.data≠.cell v
 hok:c4 X.prog X.w H s.heap
 len:U.length=X.N.length
variable {x:Str}{g':Array GenState}{ch:List Addr}{i:Nat}{M:Model}{A:Around}{E:CC}{v:V}
section
variable {X:Cx}{Y:CD}{U:List (Option V)}{H H':Hp}{s:Shared}{h':Heap}
def Cx.Ok.A0 (ok:X.Ok){o:Obj}(e:X.base.get? b=some o):b ∉ X.fs:=λhb=>by
 have:=(ok.gk.mem hb).1;rw[e]at this;cases this
def Inv.bs (I:Inv X Y U H s):∀ b o,X.base.get? b=some o->s.heap.get? b=some o/\H b=none:=λb o e=>
 ⟨I.base.keep b o (I.ok.bs b o e).1 (I.ok.bs b o e).2 (I.ok.A0 e) (I.ok.noex b o e),I.base.free b o (I.ok.bs b o e).1 (I.ok.bs b o e).2 (I.ok.noex b o e)⟩
def Inv.bk (I:Inv X Y U H s):∀ b o,X.base.get? b=some o->s.heap.get? b=some o:=λb o e=>(I.bs b o e).1
def Inv.mod (I:Inv X Y U H s):Mod X.K X.mg X.base:=I.ok.mod
def Inv.aT (I:Inv X Y U H s):X.K.In s.heap:=I.ok.mod.kin.keeps I.bk
def Inv.lt (I:Inv X Y U H s):X.env.locals<s.heap.objs.size:=let⟨_,hn,_⟩:=I.loc;hn.lt
def Inv.sz (I:Inv X Y U H s):X.s₀.heap.objs.size<=s.heap.objs.size:=Nat.le_trans I.ok.above (Nat.le_of_lt I.lt)
def Inv.A6 (I:Inv X Y U H s)(h:s.heap.objs.size<=a):a ∉ X.fs:=λhb=>by
 obtain⟨_,o,ho,_⟩:=I.ok.gk.mem hb;exact absurd (nb (ss ho) (Nat.le_trans I.sz h)) (Nat.lt_irrefl _)
def Inv.pT (I:Inv X Y U H s):∀ x c,X.env.cells.lookup x=some c->c≠X.env.locals:=λx c e z=>by
 obtain⟨v,o,ho,hd⟩:=I.cell x c e;obtain⟨m,⟨o',es,ep,ho',hd',_⟩,_⟩:=I.loc;rw[z,ho']at ho;cases ho;rw[hd']at hd;cases hd
def Inv.gk (I:Inv X Y U H s):s.heap.FunFrames X.base X.outer:=by
 have all:∀ (l:List Env),(∀ b ∈ iY l,b ∈ X.fs)->X.s₀.heap.FunFrames X.base l->s.heap.FunFrames X.base l:=by
  intro l
  induction l with
  |nil=>intro _ _;trivial
  |cons env r ih=>
   intro hs hl;obtain⟨hk,⟨L,o,hf,hn,ho,hd⟩,hr⟩:=hl;have hL:L ∈ X.fs:=hs L (by unfold iY;rw[filterMap_cons,hf];exact li);obtain⟨sl,e⟩:=I.base.slot L o ho (I.ok.frf L hL) hL λz=>I.ok.exfs L z hL
   exact⟨hk,⟨L,_,hf,hn,e,hd⟩,ih (λb hb=>hs b (by unfold iY;rw[filterMap_cons,hf];exact dl _ hb)) hr⟩
 exact all X.outer (λ_ hb=>hb) I.ok.gk
def Inv.stack (I:Inv X Y U H s):s.heap.FunFrames X.base X.stack:=by
 rcases I.ok.stk with e|⟨e,hf⟩
 .rw[e];exact I.gk
 .rw[e];obtain⟨m,hn,_⟩:=I.loc;refine .cons (by rw[I.ok.kind];decide) hf hn ?_ I.gk;exact Heap.get?_none_of_le (Nat.le_trans I.ok.bsz I.ok.above)
def Inv.d9 (I:Inv X Y U H s):∀ b ∈ iY X.stack,b ∈ X.env.locals::X.fs:=λb hb=>by
 rcases I.ok.stk with e|⟨e,hf⟩
 .rw[e]at hb;exact dl _ hb
 .rw[e]at hb;unfold iY at hb;rw[filterMap_cons,hf]at hb;exact hb
def Inv.iu (I:Inv X Y U H s):∀ b ∈ iY X.stack,H b=none:=λb hb=>by
 rcases lv.mp (I.d9 b hb) with e|hb
 .rw[e];exact I.free
 .obtain⟨_,o,ho,_⟩:=I.ok.gk.mem hb;exact I.base.free b o ho (I.ok.frf b hb) λz=>I.ok.exfs b z hb
def Inv.step {t':Nat}{d':Drawn}(I:Inv X Y U H s)
  (hch:∀ b ∈ ch,(b ∈ X.ex\/X.s₀.heap.objs.size<=b)/\b≠X.env.locals/\(∀ x c,X.env.cells.lookup x=some c->c≠b)/\∀ p ∈ X.pn++Y,p.1≠b)
  (keep:∀ b o,b≠X.env.locals->b ∉ X.fs->b ∉ ch->s.heap.get? b=some o->H b=none->h'.get? b=some o)
  (slot:∀ b o,b≠X.env.locals->b ∈ X.fs->b ∉ ch->s.heap.get? b=some o->H b=none->∃ sl,h'.get? b=some { o with slots:=sl }) (free:∀ b o,b ∉ ch->s.heap.get? b=some o->H b=none->H' b=none)
  (there:∀ b o,b ∉ ch->s.heap.get? b=some o->∃ o',h'.get? b=some o')
  (tups:∀ b xs,H b=some (.tup xs)->H' b=some (.tup xs)) (frzs:∀ b o u,H b=some (.aP o u)->H' b=some (.aP o u)) (tbls:∀ b ps,H b=some (.tbl ps)->∃ more,H' b=some (.tbl (ps++more)))
  (ns:∀ m,s.heap.Ns X.env.locals m->h'.Ns X.env.locals m) (hok:c4 X.prog X.w H' h') (hg:AllBare g'):
  Inv X Y U H' { s with heap:=h',gens:=g',drawn:=d',toks:=t' }:=by
 have neL:∀ b o,X.s₀.heap.get? b=some o->b≠X.env.locals:=λb o e=>nw (nb (ss e) I.ok.above)
 have neC:∀ b o,X.s₀.heap.get? b=some o->b ∉ X.ex->b ∉ ch:=λb o e hx hb=>by
  rcases(hch b hb).1 with z|z
  .exact hx z
  .exact absurd (nb (ss e) z) (Nat.lt_irrefl _)
 have cellK:∀ x c,X.env.cells.lookup x=some c->∀ v,s.heap.IsCell c v->h'.IsCell c v:=λx c e v ⟨o,ho,hd⟩=>by
  have nch:c ∉ ch:=λz=>(hch c z).2.2.1 x c e rfl
  by_cases hc:c ∈ X.fs
  .obtain⟨sl,q⟩:=slot c o (I.pT x c e) hc nch ho (I.freeC x c e);exact⟨_,q,hd⟩
  .exact⟨o,keep c o (I.pT x c e) hc nch ho (I.freeC x c e),hd⟩
 refine⟨I.ok,I.os,hg,⟨λb o e n hb hx=>?_,λb o e n hb hx=>?_,λb o e n hx=>?_,λb o e hx=>?_,λb xs e=>tups b xs (I.base.tups b xs e),λb o xs e=>frzs b o xs (I.base.frzs b o xs e),λb ps e=>?_⟩,?_,λx c e=>?_,?_,λx c e=>?_,λp hp=>?_,hok,I.len⟩
 .exact keep b o (neL b o e) hb (neC b o e hx) (I.base.keep b o e n hb hx) (I.base.free b o e n hx)
 .obtain⟨sl,e1⟩:=I.base.slot b o e n hb hx;obtain⟨sl',e2⟩:=slot b _ (neL b o e) hb (neC b o e hx) e1 (I.base.free b o e n hx);exact⟨sl',e2⟩
 .obtain⟨o',e1⟩:=I.base.there b o e hx;exact free b o' (neC b o e hx) e1 (I.base.free b o e n hx)
 .obtain⟨o',e1⟩:=I.base.there b o e hx;exact there b o' (neC b o e hx) e1
 .obtain⟨m1,e1⟩:=I.base.tbls b ps e;obtain⟨m2,e2⟩:=tbls b _ e1;exact⟨m1++m2,by rw[e2,Array.append_assoc]⟩
 .obtain⟨m,hn,hl⟩:=I.loc;refine⟨m,ns m hn,λi x v e1 e2 e3=>?_⟩;obtain⟨u,r,l⟩:=hl i x v e1 e2 e3;refine⟨u,r,?_⟩;rcases l with l|⟨k,c,e,z⟩
  .exact .inl l
  .exact .inr ⟨k,c,e,cellK x c e _ z⟩
 .obtain⟨v,z⟩:=I.cell x c e;exact⟨v,cellK x c e v z⟩
 .obtain⟨m,⟨o,_,_,ho,_⟩,_⟩:=I.loc;exact free _ o (λz=>(hch _ z).2.1 rfl) ho I.free
 .obtain⟨v,o,ho,hd⟩:=I.cell x c e;exact free c o (λz=>(hch c z).2.2.1 x c e rfl) ho (I.freeC x c e)
 .obtain⟨e,n,ne,nf,d⟩:=I.pin p hp;have nch:p.1 ∉ ch:=λz=>(hch p.1 z).2.2.2 p hp rfl
  exact⟨keep p.1 p.2 ne nf nch e n,free p.1 p.2 nch e n,ne,nf,d⟩
def Inv.un {t':Nat}(I:Inv X Y U H s)(u:Un X.fs [] H H' s.heap h')(hok:c4 X.prog X.w H' h'):Inv X Y U H' { s with heap:=h',toks:=t' }:=by
 obtain⟨m,⟨o,es,ep,ho,r⟩,_⟩:=id I.loc;obtain⟨sl,hL⟩:=u.any ho I.free (by simp);exact I.step (g':=s.gens) (d':=s.drawn) (ch:=[]) (λ_ z=>nomatch z) (λb o _ hb _ e n=>u.keep b o e n hb (by simp)) (λb o _ hb _ e n=>u.slot b o e n hb (by simp)) (λb o _ e n=>u.free b o e n (by simp)) (λb o _ e=>u.there b o e (by simp)) u.tups u.frzs u.tbls (λm' hm=>by
  obtain⟨o',es',ep',ho',r'⟩:=hm;rw[ho]at ho';cases ho';exact⟨_,es',ep',hL,r'⟩) hok I.bare
def Inv.call {t':Nat}{d':Drawn}(I:Inv X Y U H s)(u:Un (iY X.stack) ch H H' s.heap h')(hok:c4 X.prog X.w H' h')(hg:AllBare g')
  (hch:∀ b ∈ ch,(b ∈ X.ex\/X.s₀.heap.objs.size<=b)/\b≠X.env.locals/\(∀ x c,X.env.cells.lookup x=some c->c≠b)/\∀ p ∈ X.pn++Y,p.1≠b):
  Inv X Y U H' { s with heap:=h',gens:=g',drawn:=d',toks:=t' }:=by
 obtain⟨m,⟨o,es,ep,ho,r⟩,_⟩:=id I.loc;obtain⟨sl,hL⟩:=u.any ho I.free λz=>(hch _ z).2.1 rfl
 exact I.step (ch:=ch) hch (λb o hL hb hc e n=>u.keep b o e n (λz=>(lv.mp (I.d9 b z)).elim hL hb) hc) (λb o _ _ hc e n=>u.any e n hc) (λb o hc e n=>u.free b o e n hc) (λb o hc e=>u.there b o e hc) u.tups u.frzs u.tbls (λm' hm=>by
  obtain⟨o',es',ep',ho',r'⟩:=hm;rw[ho]at ho';cases ho';exact⟨_,es',ep',hL,r'⟩) hok hg
def Inv.turned {t':Nat}{it:Addr}(I:Inv X Y U H s)(k:∀ b o,b≠it->s.heap.get? b=some o->h'.get? b=some o) (hn:H it=none) (hL:it≠X.env.locals)
  (h1:it ∈ X.ex\/X.s₀.heap.objs.size<=it) (h2:∀ x c,X.env.cells.lookup x=some c->c≠it) (h3:∀ p ∈ X.pn++Y,p.1≠it):Inv X Y U H { s with heap:=h',toks:=t' }:=by
 have nit:∀ b u,H b=some u->b≠it:=λb u e z=>by rw[z,hn]at e;cases e
 refine I.step (g':=s.gens) (d':=s.drawn) (ch:=[it]) (λb hb=>?_) (λb o _ _ hc e _=>k b o (λz=>hc (by simp[z])) e) (λb o _ _ hc e _=>⟨o.slots,k b o (λz=>hc (by simp[z])) e⟩) (λ_ _ _ _ n=>n)
  (λb o hc e=>⟨o,k b o (λz=>hc (by simp[z])) e⟩) (λ_ _ e=>e) (λ_ _ _ e=>e) (λb ps e=>⟨#[],by rw[e];simp⟩) (λm hm=>?_) (λb u e=>?_) I.bare
 .have e:b=it:=by simpa using hb
  subst e;exact⟨h1,hL,h2,h3⟩
 .obtain⟨o,es,ep,ho,r⟩:=hm;exact⟨o,es,ep,k _ o (Ne.symm hL) ho,r⟩
 .refine(I.hok b u e).du (λc v hc q=>k c v ?_ q) (λ_ q=>q) λ_ _ q=>q
  rcases hc with z|z
  .rw[z];exact nit b u e
  .exact nit c _ z
def Inv.tok (I:Inv X Y U H s)(t:Nat):Inv X Y U H { s with toks:=t }:=I.un (h':=s.heap) (t':=t) Un.refl I.hok
def Inv.kept {t':Nat}(I:Inv X Y U H s)(k:∀ b u,s.heap.get? b=some u->h'.get? b=some u):Inv X Y U H { s with heap:=h',toks:=t' }:=I.un (Un.kept k) (I.hok.kept k)
def Inv.laid {t':Nat}(I:Inv X Y U H s)(k:∀ b u,s.heap.get? b=some u->h'.get? b=some u) (hp:s.heap.objs.size<=a) (new:aj X.prog X.w (upd H a o) h' a o):
  Inv X Y U (upd H a o) { s with heap:=h',toks:=t' }:=I.un (Un.laid k hp (I.hok.fresh hp)) (I.hok.laid k hp new)
def Inv.write {x e:Addr}{t':Nat}(I:Inv X Y U H s)(mu:zK (H x))(he:e=x\/H e=some (.own x))(k:∀ b u,b≠e->s.heap.get? b=some u->h'.get? b=some u) (heo:∃ u,h'.get? e=some u)
  (new:aj X.prog X.w (upd H x o) h' x o):Inv X Y U (upd H x o) { s with heap:=h',toks:=t' }:=I.un (Un.write mu he k heo) (I.hok.write mu he k heo new)
def Inv.ip {pins':CD}(I:Inv X Y U H s)(h:∀ p ∈ pins',s.heap.get? p.1=some p.2/\H p.1=none/\p.1≠X.env.locals/\p.1 ∉ X.fs/\∀ v,p.2.data≠.cell v):Inv X pins' U H s:=
 ⟨I.ok,I.os,I.bare,I.base,I.loc,I.cell,I.free,I.freeC,λp hp=>(mem_append.mp hp).elim (λz=>I.pin p (mem_append_left _ z)) (h p),I.hok,I.len⟩
def gi {N:List Str}(hN:N.Nodup){j:Nat}(a:N[i]? =some x)(b:N[j]? =some x):i=j:=by
 obtain⟨h1,e1⟩:=re.mp a;obtain⟨h2,e2⟩:=re.mp b;exact(List.getElem_inj hN).mp (e1.trans e2.symm)
variable {Q:CB}
def gR (I:Inv X Y U H s)(hN:X.N.Nodup)(hi:X.N[i]? =some x)(hx:Loc X.env.scope x)(r:RelV v u)
  (h:∀ s',Inv X Y (U.set i (some v)) H s'->(∃ a,Heap.SameBut a s.heap s'.heap/\(a=X.env.locals\/X.env.cells.lookup x=some a))->Q () s') (hf:X.fn x=true\/X.env.scope.names.lookup x=some .local:=by first|exact .inl rfl|exact .inr rfl|assumption):wpAny M A (storeName X.env x u) Q E s:=by
 obtain⟨m,hn,hl⟩:=id I.loc;have hcls:(X.env.scope.kind ==.class||(X.env.scope.kind ==.module&&X.env.locals != X.env.globals))=false:=by rw[I.ok.kind];rfl
 have hiσ:i<U.length:=by rw[I.len];exact(re.mp hi).1
 have pT:=I.pT;have tracked:∀ {a:Addr}{h':Heap},(∃ o,s.heap.get? a=some o/\H a=none)->Heap.SameBut a s.heap h'->c4 X.prog X.w H h':=λ{a h'} ha hs b ob e=>by
  obtain⟨_,_,hfree⟩:=ha;refine(I.hok b ob e).du (λc w' hc q=>(hs.2 c ?_).trans q) (λ_ q=>q) λ_ _ q=>q
  rintro rfl;rcases hc with rfl|hc
  .rw[hfree]at e;cases e
  .rw[hfree]at hc;cases hc
 rcases hx with hk|hk
 .refine wpAny_storeName_local hk hn (λh' hn' hs=>?_) hcls;obtain⟨oL,_,_,hoL,_⟩:=id hn;refine h _ ⟨I.ok,I.os,I.bare,⟨λb o e n hb hx=>?_,λb o e n hb hx=>?_,I.base.free,λb o e hx=>?_,I.base.tups,I.base.frzs,I.base.tbls⟩,⟨_,hn',λj y v' e1 e2 e3=>?_⟩,λy c e=>?_,I.free,I.freeC,λp hp=>?_,tracked ⟨oL,hoL,I.free⟩ hs,by simpa using I.len⟩ ⟨_,hs,.inl rfl⟩
  .exact(hs.2 b (nw (nb (ss e) I.ok.above))).trans (I.base.keep b o e n hb hx)
  .obtain⟨sl,e1⟩:=I.base.slot b o e n hb hx;exact⟨sl,(hs.2 b (nw (nb (ss e) I.ok.above))).trans e1⟩
  .obtain⟨o',e1⟩:=I.base.there b o e hx;exact⟨o',(hs.2 b (nw (nb (ss e) I.ok.above))).trans e1⟩
  .by_cases hj:j=i
   .subst hj;rw[hi]at e1;cases e1;rw[getElem?_set_self hiσ]at e2;cases e2;exact⟨u,r,.inl ⟨hk,by simp⟩⟩
   .rw[getElem?_set_ne (Ne.symm hj)]at e2;obtain⟨u',r',q⟩:=hl j y v' e1 e2 e3;refine⟨u',r',?_⟩;rcases q with⟨k,e⟩|⟨k,c,e,z⟩
    .refine .inl ⟨k,?_⟩;have:y≠x:=λe=>hj (gi hN e1 (e▸hi))
     simp[this,e]
    .exact .inr ⟨k,c,e,z.sameBut hs (pT y c e)⟩
  .obtain⟨w',z⟩:=I.cell y c e;exact⟨w',z.sameBut hs (pT y c e)⟩
  .obtain⟨e,n,ne,nf,d⟩:=I.pin p hp;exact⟨(hs.2 p.1 ne).trans e,n,ne,nf,d⟩
 .have hfn:X.fn x=true:=by
   rcases hf with z|z
   .exact z
   .rw[z]at hk;cases hk
  obtain⟨c,hc⟩:=I.ok.has x (.inl hk);obtain⟨w',z⟩:=I.cell x c hc;refine wpAny_storeName_cell I.ok.kind hk hc z (λh' hc' hs=>?_);obtain⟨oc,hoc,hocd⟩:=id z;refine h { s with heap:=h' } ⟨I.ok,I.os,I.bare,⟨λb o e n hb hx=>?_,λb o e n hb hx=>?_,I.base.free,λb o e hx=>?_,I.base.tups,I.base.frzs,I.base.tbls⟩,⟨m,hn.sameBut hs (Ne.symm (pT x c hc)),λj y v' e1 e2 e3=>?_⟩,λy c' e=>?_,I.free,I.freeC,λp hp=>?_,tracked ⟨oc,hoc,I.freeC x c hc⟩ hs,by simpa using I.len⟩ ⟨c,hs,.inr hc⟩
  .exact(hs.2 b (nw (nb (ss e) (I.ok.cab x c hfn hc)))).trans (I.base.keep b o e n hb hx)
  .obtain⟨sl,e1⟩:=I.base.slot b o e n hb hx;exact⟨sl,(hs.2 b (nw (nb (ss e) (I.ok.cab x c hfn hc)))).trans e1⟩
  .obtain⟨o',e1⟩:=I.base.there b o e hx;exact⟨o',(hs.2 b (nw (nb (ss e) (I.ok.cab x c hfn hc)))).trans e1⟩
  .by_cases hj:j=i
   .subst hj;rw[hi]at e1;cases e1;rw[getElem?_set_self hiσ]at e2;cases e2;exact⟨u,r,.inr ⟨.inl hk,c,hc,hc'⟩⟩
   .rw[getElem?_set_ne (Ne.symm hj)]at e2;obtain⟨u',r',q⟩:=hl j y v' e1 e2 e3;refine⟨u',r',?_⟩;rcases q with q|⟨k,c',e,z'⟩
    .exact .inl q
    .refine .inr ⟨k,c',e,z'.sameBut hs ?_⟩;rintro rfl;exact hj (gi hN e1 (I.ok.inj _ _ _ e hc▸hi))
  .by_cases hcc:c'=c
   .subst hcc;exact⟨_,hc'⟩
   .obtain⟨w2,z2⟩:=I.cell y c' e;exact⟨w2,z2.sameBut hs hcc⟩
  .obtain⟨e,n,ne,nf,d⟩:=I.pin p hp;refine⟨(hs.2 p.1 ?_).trans e,n,ne,nf,d⟩;intro q;rw[q,hoc]at e;have q':oc=p.2:=Option.some.inj e;exact d w' (by rw[<-q'];exact hocd)
def cF (I:Inv X Y U H s)(hN:X.N.Nodup)(hi:X.N[i]? =some x)(hx:Loc X.env.scope x)(r:RelV v u)
  (h:∀ s',Inv X Y (U.set i (some v)) H s'->Q () s') (hf:X.fn x=true\/X.env.scope.names.lookup x=some .local:=by first|exact .inl rfl|exact .inr rfl|assumption):wpAny M A (storeName X.env x u) Q E s:=
 gR I hN hi hx r (λs' I' _=>h s' I') hf
def Inv.qq {s':Shared}(I:Inv X Y U H s)(ho:s'.os=s.os)(u:Un (iY X.stack) ch H H' s.heap s'.heap)(hok:c4 X.prog X.w H' s'.heap)(hg:AllBare s'.gens)
  (hch:∀ b ∈ ch,(b ∈ X.ex\/X.s₀.heap.objs.size<=b)/\b≠X.env.locals/\(∀ x c,X.env.cells.lookup x=some c->c≠b)/\∀ p ∈ X.pn++Y,p.1≠b):Inv X Y U H' s':=by
 obtain⟨h',g',d',t',o'⟩:=s';have e:o'=s.os:=ho;subst e;exact I.call (g':=g') (t':=t') (d':=d') u hok hg hch
end
@[reducible]def XK:=Addr->Hp->Prop
@[reducible]def St:=List (Option V)
@[reducible]def VK:=V->Hp->Prop
@[reducible]def TE:=St->Hp->VK->Prop
@[reducible]def TT:=St->Hp->(Bool->Hp->Prop)->Prop
@[reducible]def TA:=St->Hp->(List V->Hp->Prop)->Prop
structure Ends where
 nx:St->Hp->Prop
 rt:VK
 bk:St->Hp->Prop:=λ_ _=>False
 ct:St->Hp->Prop:=λ_ _=>False
@[reducible]def TS:=Ends->St->Hp->Prop
abbrev EP (X:Cx)(Y:CD)(U:St)(Q:VK)(u:Value)(s':Shared):Prop:=∃ v H',Inv X Y U H' s'/\RelV v u/\Q v H'
abbrev TP (X:Cx)(Y:CD)(U:St)(Q:Bool->Hp->Prop)(b:Bool)(s':Shared):Prop:=∃ H',Inv X Y U H' s'/\Q b H'
abbrev AP (X:Cx)(Y:CD)(U:St)(Q:List V->Hp->Prop)(us:List Value)(s':Shared):Prop:=∃ vs H',Inv X Y U H' s'/\Vals vs us/\Q vs H'
abbrev SP (X:Cx)(Y:CD)(D:Ends)(f:Flow)(s':Shared):Prop:=
 match f with
 | .next=>∃ σ' H',Inv X Y σ' H' s'/\D.nx σ' H'
 | .brk=>∃ σ' H',Inv X Y σ' H' s'/\D.bk σ' H'
 | .cont=>∃ σ' H',Inv X Y σ' H' s'/\D.ct σ' H'
 | .ret u=>∃ v σ' H',Inv X Y σ' H' s'/\RelV v u/\D.rt v H'
abbrev PE (X:Cx)(e:Expr)(t:TE):Prop:=
 ∀ (Y:CD) (s:Shared) (U:St) (H:Hp) (Q:VK),Inv X Y U H s->t U H Q->wpAny (model X.prog X.w) X.A (eval e X.env) (EP X Y U Q) X.xe s
abbrev PT (X:Cx)(e:Expr)(t:TT):Prop:=
 ∀ (Y:CD) (s:Shared) (U:St) (H:Hp) (Q:Bool->Hp->Prop),Inv X Y U H s->t U H Q->wpAny (model X.prog X.w) X.A (isTrue e X.env (eval e X.env)) (TP X Y U Q) X.xe s
abbrev PW (X:Cx)(e:Expr)(t:TT):Prop:=
 ∀ (whole:Sem Value) (Y:CD) (s:Shared) (U:St) (H:Hp) (Q:Bool->Hp->Prop),Inv X Y U H s->t U H Q->wpAny (model X.prog X.w) X.A (isTrue e X.env whole) (TP X Y U Q) X.xe s
variable {e:Expr}
def PW.pt {X:Cx}{t:TT}(h:PW X e t):PT X e t:=h _
abbrev PA (X:Cx)(es:List Expr)(t:TA):Prop:=
 ∀ (pos:Pos) (Y:CD) (s:Shared) (U:St) (H:Hp) (Q:List V->Hp->Prop),Inv X Y U H s->t U H Q->wpAny (model X.prog X.w) X.A (spliced (backTo pos (bm es X.env))) (AP X Y U Q) X.xe s
abbrev PS (X:Cx)(st:Stmt)(t:TS):Prop:=
 ∀ (Y:CD) (s:Shared) (U:St) (H:Hp) (D:Ends),Inv X Y U H s->t D U H->wpAny (model X.prog X.w) X.A (exec st X.env) (SP X Y D) X.xe s
abbrev vC (X:Cx)(st:List Stmt)(t:TS):Prop:=
 ∀ (Y:CD) (s:Shared) (U:St) (H:Hp) (D:Ends),Inv X Y U H s->t D U H->wpAny (model X.prog X.w) X.A (execs st X.env) (SP X Y D) X.xe s
variable {s:Shared}
def ar {α:Type}{t:Sem α}{Q Q':α->Shared->Prop}(h:wpAny M A t Q E s)(hQ:∀ a s,Q a s->Q' a s):wpAny M A t Q' E s:=wpAny_mono h hQ λ_ _ x=>x
variable {Q:CC}{Y:CD}{U:St}
section
variable {X:Cx}
abbrev A5 (i:Nat):TE:=λU H Q=>∃ v,U[i]? =some (some v)/\Q v H
abbrev tC (v:V):TE:=λ_ H Q=>Q v H
def w6 {pos:Pos}(hN:X.N[i]? =some x)(hv:yD X.env.scope x)(hd:(x ==("__debug__":Str))=false:=by decide) (hcd:(x ==("__classdict__":Str))=false:=by decide):PE X (.Name x pos) (A5 i):=by
 intro Y s U H Q I h;obtain⟨v,e,h⟩:=h;obtain⟨m,hn,hl⟩:=I.loc;obtain⟨u,r,l⟩:=hl i x v hN e hv;have fin:EP X Y U Q u s:=⟨v,H,I,r,h⟩;rcases l with⟨hk,hm⟩|⟨hk,c,hc,hcell⟩
 .exact wpAny_Name (wpAny_loadName_local I.ok.kind hk hn hm fin) hd
 .rcases hk with hk|hk
  .exact wpAny_Name (wpAny_loadName_cell I.ok.kind hk hc hcell fin) hd
  .exact wpAny_Name (wpAny_loadName_free I.ok.kind hk hc hcell fin hcd) hd
def vU {i j pos}:PE X (.Constant (.int i) j pos) (tC (.int i)):=λ_ _ _ H _ I h=>wpAny_Constant_int ⟨.int i,H,I.tok _,⟨_,rfl⟩,h⟩
def Ag {b j pos}:PE X (.Constant (.bool b) j pos) (tC (.bl b)):=λ_ _ _ H _ I h=>Constant_bool ⟨.bl b,H,I,rfl,h⟩
def xP {j pos}:PE X (.Constant .none j pos) (tC .non):=λ_ _ _ H _ I h=>Constant_none ⟨.non,H,I,rfl,h⟩
def o5 {x j pos}:PE X (.Constant (.str x) j pos) (tC (.str x)):=λ_ _ _ H _ I h=>Calls.Constant_str ⟨.str x,H,I.tok _,⟨_,rfl⟩,h⟩
abbrev Gl (X:Cx)(x:Str):Prop:=X.env.kindOf x=some .globalImplicit
def aN {pos:Pos}(I:Inv X Y U H s)(hg:Gl X x)(hm:X.mg x=some u)(h:Q u s)
  (hd:(x ==("__debug__":Str))=false:=by decide):wpAny (model X.prog X.w) X.A (eval (.Name x pos) X.env) Q E s:=
 Calls.Name_function_global I.ok.kind hg (Calls.loadGlobal_global (by rw[I.ok.glob];exact I.mod.glob.keeps I.bk) hm h) hd
def i8 {pos:Pos}(I:Inv X Y U H s)(hg:Gl X x)(hm:X.mg x=none)(hv:bootBuiltins x=some u)(h:Q u s)
  (hn:x≠"__name__":=by decide) (hd:(x ==("__debug__":Str))=false:=by decide):wpAny (model X.prog X.w) X.A (eval (.Name x pos) X.env) Q E s:=by
 obtain⟨mb,h1,h2⟩:=I.mod.blt;exact Calls.Name_function_global I.ok.kind hg (Calls.loadGlobal_builtin (by rw[I.ok.glob];exact I.mod.glob.keeps I.bk) hm (by rw[I.ok.blt];exact h1.keeps I.bk) ((h2 x hn).trans hv) h) hd
def iB {pos:Pos}(hg:Gl X x)(hm:X.mg x=some u)(r:RelV v u)(hd:(x ==("__debug__":Str))=false:=by decide):PE X (.Name x pos) (tC v):=
 λ_ _ _ H _ I h=>aN I hg hm ⟨v,H,I,r,h⟩ hd
def sY {pos:Pos}(hg:Gl X x)(hm:X.mg x=none)(hv:bootBuiltins x=some u)(r:RelV v u)(hn:x≠"__name__":=by decide) (hd:(x ==("__debug__":Str))=false:=by decide):PE X (.Name x pos) (tC v):=
 λ_ _ _ H _ I h=>i8 I hg hm hv ⟨v,H,I,r,h⟩ hn hd
variable {a b:Expr}{ta tb:TE}{pos:Pos}
variable {tA tB':TT}{rest:List Expr}
abbrev A2 (t u:TT):TT:=λU H Q=>t U H λc H1=>if c=true then u U H1 Q else Q false H1
abbrev Ca (t u:TT):TT:=λU H Q=>t U H λc H1=>if c=true then Q true H1 else u U H1 Q
abbrev A7 (t:TT):TT:=λU H Q=>t U H λc H1=>Q (!c) H1
def uc (ha:PT X a tA):PW X (.BoolOp .And [a] pos) tA:=by
 intro wh Y s U H Q I h;refine isTrue_and (ar (ha Y s U H Q I h) λc s1 e=>?_);cases c with
 |true=>exact isTrue_and_nil e
 |false=>exact e
def v7 (ha:PT X a tA):PW X (.BoolOp .Or [a] pos) tA:=by
 intro wh Y s U H Q I h;refine isTrue_or (ar (ha Y s U H Q I h) λc s1 e=>?_);cases c with
 |false=>exact isTrue_or_nil e
 |true=>exact e
def w9 (ha:PT X a tA)(hb:PW X (.BoolOp .And (b::rest) pos) tB'):PW X (.BoolOp .And (a::b::rest) pos) (A2 tA tB'):=by
 intro wh Y s U H Q I h;refine isTrue_and (ar (ha Y s U H _ I h) λc s1 ⟨H1,I1,q1⟩=>?_);cases c with
 |true=>exact hb wh Y s1 U H1 Q I1 q1
 |false=>exact⟨H1,I1,q1⟩
def yz (ha:PT X a tA)(hb:PW X (.BoolOp .Or (b::rest) pos) tB'):PW X (.BoolOp .Or (a::b::rest) pos) (Ca tA tB'):=by
 intro wh Y s U H Q I h;refine isTrue_or (ar (ha Y s U H _ I h) λc s1 ⟨H1,I1,q1⟩=>?_);cases c with
 |true=>exact⟨H1,I1,q1⟩
 |false=>exact hb wh Y s1 U H1 Q I1 q1
def yf (ha:PT X a tA):PT X (.UnaryOp .Not a pos) (A7 tA):=by
 intro Y s U H Q I h;exact isTrue_not (ha Y s U H (λc H1=>Q (!c) H1) I h)
abbrev zX (ta tb:TE):TE:=λU H Q=>ta U H λx H1=>∃ c,x=.bl c/\if c=true then tb U H1 Q else Q (.bl false) H1
abbrev Bj (ta tb:TE):TE:=λU H Q=>ta U H λx H1=>∃ c,x=.bl c/\if c=true then Q (.bl true) H1 else tb U H1 Q
abbrev zZ (ta:TE):TE:=λU H Q=>ta U H λx H1=>∃ c,x=.bl c/\Q (.bl (!c)) H1
def pk {op}{t:TE}(h:PE X a t):PE X (.BoolOp op [a] pos) t:=λY s U H Q I hw=>BoolOp_one (h Y s U H Q I hw)
def yc (ha:PE X a ta)(hb:PE X (.BoolOp .And (b::rest) pos) tb):PE X (.BoolOp .And (a::b::rest) pos) (zX ta tb):=by
 intro Y s U H Q I h;refine BoolOp_and (ar (ha Y s U H _ I h) λv s1 ⟨x,H1,I1,r1,q1⟩=>?_);obtain⟨c,rfl,q1⟩:=q1;cases r1;refine bi ?_;cases c with
 |true=>exact hb Y s1 U H1 Q I1 q1
 |false=>exact⟨.bl false,H1,I1,rfl,q1⟩
def yF (ha:PE X a ta)(hb:PE X (.BoolOp .Or (b::rest) pos) tb):PE X (.BoolOp .Or (a::b::rest) pos) (Bj ta tb):=by
 intro Y s U H Q I h;refine BoolOp_or (ar (ha Y s U H _ I h) λv s1 ⟨x,H1,I1,r1,q1⟩=>?_);obtain⟨c,rfl,q1⟩:=q1;cases r1;refine bi ?_;cases c with
 |false=>exact hb Y s1 U H1 Q I1 q1
 |true=>exact⟨.bl true,H1,I1,rfl,q1⟩
def v8 (ha:PE X a ta):PE X (.UnaryOp .Not a pos) (zZ ta):=by
 intro Y s U H Q I h;refine UnaryOp_ (ar (ha Y s U H _ I h) λv s1 ⟨x,H1,I1,r1,q1⟩=>?_);obtain⟨c,rfl,q1⟩:=q1;cases r1;exact not_of (bi ⟨.bl (!c),H1,I1,rfl,q1⟩)
abbrev Ce (t:TT)(ta tb:TE):TE:=λU H Q=>t U H λc H1=>if c=true then ta U H1 Q else tb U H1 Q
def qx {c:Expr}(hc:PT X c tA)(ha:PE X a ta)(hb:PE X b tb):PE X (.IfExp c a b pos) (Ce tA ta tb):=by
 intro Y s U H Q I h;refine wpAny_IfExp (ar (hc Y s U H _ I h) λd s1 ⟨H1,I1,q1⟩=>?_);cases d with
 |true=>exact ha Y s1 U H1 Q I1 q1
 |false=>exact hb Y s1 U H1 Q I1 q1
end
abbrev aA (K:W.Frag)(H:Hp)(a:Addr)(xs:List V):Prop:=
 Rd H a (.lst xs)\/
  ∃ (o:Obj) (its:Array Value) (n:Nat),K.lookup a=some o/\o.cls=.type "list"/\o.dict=none/\o.data=.seq its n/\its.size<=bn/\Vals xs its.toList
abbrev cV (K:W.Frag)(H:Hp)(a:Addr)(xs:List V):Prop:=
 Rd H a (.tup xs)\/
  ∃ (o:Obj) (its:Array Value) (n:Nat),K.lookup a=some o/\o.cls=.type "tuple"/\o.data=.seq its n/\its.size<=bn/\Vals xs its.toList
abbrev wz:Value->Option V
 | .none=>some .non
 | .bool b=>some (.bl b)
 | .int i _=>some (.int i)
 | .str x _=>some (.str x)
 | .bytes b _=>some (.byt b)
 | .float b _=>some (.flt b)
 | .ref a=>some (.ref a)
 | .type n=>some (.ty n)
 |_=>none
def RelV.abs {x:V}(r:RelV x u):wz u=some x:=by
 cases x with
 |non=>cases r;rfl
 |bl _=>cases r;rfl
 |int _=>obtain⟨t,rfl⟩:=r;rfl
 |str _=>obtain⟨t,rfl⟩:=r;rfl
 |byt _=>obtain⟨t,rfl⟩:=r;rfl
 |flt _=>obtain⟨t,rfl⟩:=r;rfl
 |ref _=>cases r;rfl
 |ty _=>cases r;rfl
def RelV.inj {x y:V}(r:RelV x u)(q:RelV y u):x=y:=Option.some.inj (r.abs.symm.trans q.abs)
def Vals.inj:∀ {xs ys:List V}{us:List Value},Vals xs us->Vals ys us->xs=ys
 |_,_,_,.nil,.nil=>rfl
 |_,_,_,.cons r t,.cons r' t'=>by rw[r.inj r',Vals.inj t t']
variable {K:W.Frag}
section
variable {X:Cx}{Y:CD}{U:St}{H:Hp}{s:Shared}{a:Addr}{xs ys:List V}
def aA.of (h:H a=some (.lst xs)):aA K H a xs:=.inl (.inl h)
def cV.of (h:H a=some (.tup xs)):cV K H a xs:=.inl (.inl h)
def Inv.list (I:Inv X Y U H s)(h:aA X.K H a xs):∃ its:List Value,Vals xs its/\PlainL s.heap a its.toArray/\xs.length<=bn:=by
 rcases h with h|⟨o,its,n,hk,hc,hd,hs,hz,r⟩
 .obtain⟨z,its,n,r,e⟩:=h.ok I.hok;exact⟨its,r,⟨_,n,e,rfl,rfl,rfl⟩,z⟩
 .refine⟨its.toList,r,⟨o,n,I.aT a o hk,hc,hd,by simpa using hs⟩,?_⟩;have e:=r.length;simp only[Array.length_toList]at e
  omega
def Inv.tuple (I:Inv X Y U H s)(h:cV X.K H a xs):∃ its:List Value,Vals xs its/\IsTup s.heap a its.toArray/\xs.length<=bn:=by
 rcases h with h|⟨o,its,n,hk,hc,hs,hz,r⟩
 .obtain⟨z,its,r,p⟩:=h.ok I.hok;exact⟨its,r,p,z⟩
 .refine⟨its.toList,r,⟨o,I.aT a o hk,hc,n,by simpa using hs⟩,?_⟩;have e:=r.length;simp only[Array.length_toList]at e
  omega
def Inv.dJ (I:Inv X Y U H s)(h:aA X.K H a xs)(h':aA X.K H a ys):xs=ys:=by
 obtain⟨its,r,⟨o,n,e,_,_,d⟩,_⟩:=I.list h;obtain⟨its',r',⟨o',n',e',_,_,d'⟩,_⟩:=I.list h';rw[e]at e';cases e';rw[d]at d'
 injection d' with d1 _
 have:its=its':=by simpa using congrArg Array.toList d1
 subst this;exact r.inj r'
def Inv.gK (I:Inv X Y U H s)(h:cV X.K H a xs)(h':cV X.K H a ys):xs=ys:=by
 obtain⟨its,r,⟨o,e,_,n,d⟩,_⟩:=I.tuple h;obtain⟨its',r',⟨o',e',_,n',d'⟩,_⟩:=I.tuple h';rw[e]at e';cases e';rw[d]at d'
 injection d' with d1 _
 have:its=its':=by simpa using congrArg Array.toList d1
 subst this;exact r.inj r'
end
section
variable {X:Cx}{Y:CD}{U:St}{H:Hp}{s:Shared}{E:CC}
end
section
variable {X:Cx}{st:Stmt}{rest:List Stmt}{t u:TS}{e:Expr}{te:TE}{pos:Pos}
abbrev yT:TS:=λD U H=>D.nx U H
abbrev AU (t u:TS):TS:=λD U H=>t { D with nx:=u D } U H
def ub:vC X [] yT:=λ_ _ U H _ I h=>wpAny_execs_nil ⟨U,H,I,h⟩
def qE (h1:PS X st t)(h2:vC X rest u):vC X (st::rest) (AU t u):=by
 intro Y s U H D I h;refine wpAny_execs_cons (ar (h1 Y s U H { D with nx:=u D } I h) λf s1 q=>?_);cases f with
 |next=>
  obtain⟨σ',H',I',q⟩:=q;exact h2 Y s1 σ' H' D I' q
 |ret v=>exact q
 |brk=>exact q
 |cont=>exact q
def Inv.quiet (I:Inv X Y U H s):interactive X.env=false:=by simp[interactive,I.ok.kind]
abbrev zA (te:TE):TS:=λD U H=>te U H λ_ H1=>D.nx U H1
def sv (he:PE X e te)(hs:swapsWith e none pos.line X.env=pure false:=by rfl):PS X (.Expr e pos) (zA te):=by
 intro Y s U H D I h;exact wpAny_Expr_any (ar (he Y s U H _ I h) λv s1 ⟨x,H1,I1,r1,q1⟩=>⟨U,H1,I1,q1⟩) I.quiet hs
abbrev BC (te:TE):TS:=λD U H=>te U H D.rt
def wX (he:PE X e te):PS X (.Return (some e) pos) (BC te):=by
 intro Y s U H D I h;exact wpAny_Return_some (ar (he Y s U H _ I h) λv s1 ⟨x,H1,I1,r1,q1⟩=>⟨x,U,H1,I1,r1,q1⟩)
abbrev AZ (c:TT)(t u:TS):TS:=λD U H=>c U H λb H1=>if b=true then t D U H1 else u D U H1
def zV {c:Expr}{a b:List Stmt}{tc:TT}(hc:PT X c tc)(ha:vC X a t)(hb:vC X b u):PS X (.If c a b pos) (AZ tc t u):=by
 intro Y s U H D I h;refine wpAny_If (ar (hc Y s U H _ I h) λd s1 ⟨H1,I1,q1⟩=>?_);cases d with
 |true=>exact ha Y s1 U H1 D I1 q1
 |false=>exact hb Y s1 U H1 D I1 q1
end
@[reducible]def TG:=V->St->Hp->(St->Hp->Prop)->Prop
@[reducible]def sM:=List V->St->Hp->(St->Hp->Prop)->Prop
abbrev PG (X:Cx)(target:Expr)(t:TG):Prop:=
 ∀ (Y:CD) (s:Shared) (U:St) (H:Hp) (v:V) (u:Value) (Q:St->Hp->Prop),Inv X Y U H s->RelV v u->t v U H Q->
  wpAny (model X.prog X.w) X.A (assign target X.env u) (λ_ s'=>∃ σ' H',Inv X Y σ' H' s'/\Q σ' H') X.xe s
abbrev vJ (X:Cx)(ts:List Expr)(t:sM):Prop:=
 ∀ (Y:CD) (s:Shared) (U:St) (H:Hp) (vs:List V) (us:List Value) (Q:St->Hp->Prop),Inv X Y U H s->Vals vs us->t vs U H Q->
  wpAny (model X.prog X.w) X.A (assignInOrder ((assignEach ts X.env).map (·.2)) us) (λ_ s'=>∃ σ' H',Inv X Y σ' H' s'/\Q σ' H') X.xe s
@[reducible]def nq:=V->V->V->Hp->(Hp->Prop)->Prop
abbrev sW (X:Cx)(t:nq):Prop:=
 ∀ (Y:CD) (s:Shared) (U:St) (H:Hp) (o i v:V) (ov iv u:Value) (Q:Hp->Prop),Inv X Y U H s->RelV o ov->RelV i iv->RelV v u->t o i v H Q->
  wpAny (model X.prog X.w) X.A (setItem ov iv u) (λ_ s'=>∃ H',Inv X Y U H' s'/\Q H') X.xe s
@[reducible]def yo:=V->V->Hp->VK->Prop
abbrev zU (X:Cx)(op:Operator)(t:yo):Prop:=
 ∀ (Y:CD) (s:Shared) (U:St) (H:Hp) (x y:V) (v u:Value) (Q:VK),Inv X Y U H s->RelV x v->RelV y u->t x y H Q->
  wpAny (model X.prog X.w) X.A (inplaceOp op v u) (EP X Y U Q) X.xe s
variable {es:List Expr}{k:Nat}{tg:Expr}{te:TE}{pos':Pos}{op:Operator}
section
variable {X:Cx}{pos:Pos}
abbrev dn (i:Nat):TG:=λv U H Q=>Q (U.set i (some v)) H
def dR (hN:X.N.Nodup)(hi:X.N[i]? =some x)(hx:Loc X.env.scope x)(hf:X.fn x=true\/X.env.scope.names.lookup x=some .local:=by first|exact .inl rfl|exact .inr rfl|assumption):PG X (.Name x pos) (dn i):=by
 intro Y s U H v u Q I r h;exact wpAny_assign_Name (cF I hN hi hx r (λs' I'=>⟨_,H,I',h⟩) hf)
abbrev AX:sM:=λvs U H Q=>vs=[]/\Q U H
abbrev yS (t:TG)(u:sM):sM:=λvs U H Q=>∃ v r,vs=v::r/\t v U H λσ' H'=>u r σ' H' Q
def iP:vJ X [] AX:=by
 intro Y s U H vs us Q I r h;obtain⟨e,h⟩:=h;subst e;cases r;exact assignInOrder_nil ⟨U,H,I,h⟩
def dB {t:TG}{u:sM}(h1:PG X e t)(h2:vJ X es u)
  (hs:(assignEach (e::es) X.env).map (·.2)=assign e X.env::(assignEach es X.env).map (·.2):=by rfl):vJ X (e::es) (yS t u):=by
 intro Y s U H vs us Q I r h;obtain⟨v,vr,e1,h⟩:=h;subst e1;cases r with
 |cons r rr=>
  rw[hs];refine assignInOrder_cons (ar (h1 Y s U H _ _ _ I r h) λ_ s1 ⟨σ1,H1,I1,q1⟩=>?_);exact h2 Y s1 σ1 H1 _ _ Q I1 rr q1
abbrev t4 (K:W.Frag)(n:Nat)(t:sM):TG:=λv U H Q=>∃ a xs,v=.ref a/\cV K H a xs/\xs.length=n/\t xs U H Q
def iV {t:sM}{n:Nat}(hc:X.calm=true)(h:vJ X es t)
  (hn:(assignEach es X.env).length=n:=by rfl) (hst:(assignEach es X.env).findIdx? (·.1)=none:=by rfl):PG X (.Tuple es k pos) (t4 X.K n t):=by
 intro Y s U H v u Q I r hw;obtain⟨a,xs,e1,hq,hl,hw⟩:=hw;subst e1;cases r;obtain⟨its,rv,ht,hz⟩:=I.tuple hq;refine assign_Tuple_tuple (I.ok.hd hc) ht (by simp[hn,<-hl,rv.length]) hst λh' hx=>?_
 have I1:Inv X Y U H { s with heap:=h' }:=I.kept (t':=s.toks) λb o e=>hx b o (nw (ss e)) e
 exact h Y _ U H xs _ Q I1 (by simpa using rv) hw
abbrev Bi (to ti:TE)(t:nq):TG:=λv U H Q=>to U H λo H1=>ti U H1 λi H2=>t o i v H2 λH3=>Q U H3
def wa {o i:Expr}{to ti:TE}{t:nq}(ho:PE X o to)(hi:PE X i ti)(hs:sW X t)
  (ha:∀ v,assign (.Subscript o i pos) X.env v=(do
   let ov <-holding [v] (eval o X.env)
   let iv <-holding [v,ov] (eval i X.env)
   standAt pos
   holding [v,ov,iv] (setItem ov iv v)
   release [v,ov,iv] []):=by intro _;rfl):PG X (.Subscript o i pos) (Bi to ti t):=by
 intro Y s U H v u Q I r h;rw[ha];refine ad (bd (ar (ho Y s U H _ I h) λov s1 ⟨x,H1,I1,r1,q1⟩=>?_));refine ad (bd (ar (hi Y s1 U H1 _ I1 q1) λiv s2 ⟨y,H2,I2,r2,q2⟩=>?_));refine ad (wpAny_standAt (ad (bd (ar (hs Y s2 U H2 x y v ov iv u _ I2 r1 r2 r q2) λ_ s3 ⟨H3,I3,q3⟩=>?_))));exact wpAny_release ⟨U,H3,I3,q3⟩
abbrev Ae (te:TE)(g:TG):TS:=λD U H=>te U H λx H1=>g x U H1 D.nx
def xI {g:TG}(he:PE X e te)(hg:PG X tg g)(hs:swapsWithSole [tg] e pos.line X.env=pure false:=by rfl) (hw:swappedStores [tg] e X.env=pure none:=by rfl)
  (h1:(assignEach [tg] X.env).map (·.2)=[assign tg X.env]:=by rfl):PS X (.Assign [tg] e pos) (Ae te g):=by
 intro Y s U H D I h;refine wpAny_Assign_stores (ar (he Y s U H _ I h) λv s1 ⟨x,H1,I1,r1,q1⟩=>?_) hs hw;rw[h1];exact ar (hg Y s1 U H1 x v _ I1 r1 q1) λ_ s2 q=>q
def rQ (hN:X.N.Nodup)(hi:X.N[i]? =some x)(hx:Loc X.env.scope x)(he:PE X e te)(hs:swapsWith e (some (.Name x pos')) pos.line X.env=pure false:=by rfl) (hf:X.fn x=true\/X.env.scope.names.lookup x=some .local:=by first|exact .inl rfl|exact .inr rfl|assumption):
  PS X (.Assign [.Name x pos'] e pos) (Ae te (dn i)):=by
 intro Y s U H D I h;refine wpAny_Assign_Name (ar (he Y s U H _ I h) λv s1 ⟨y,H1,I1,r1,q1⟩=>?_) hs;exact cF I1 hN hi hx r1 (λs2 I2=>⟨_,H1,I2,q1⟩) hf
abbrev Bw (i:Nat)(te:TE)(ti:yo):TS:=λD U H=>∃ x,U[i]? =some (some x)/\te U H λy H1=>ti x y H1 λz H2=>D.nx (U.set i (some z)) H2
def wj {ti:yo}(hN:X.N.Nodup)(hi:X.N[i]? =some x)(hx:Loc X.env.scope x)(he:PE X e te)(ho:zU X op ti)(hf:X.fn x=true\/X.env.scope.names.lookup x=some .local:=by first|exact .inl rfl|exact .inr rfl|assumption):
  PS X (.AugAssign (.Name x pos') op e pos) (Bw i te ti):=by
 intro Y s U H D I h;obtain⟨v,e1,h⟩:=h;obtain⟨m,hn,hl⟩:=I.loc;have vT:yD X.env.scope x:=by rcases hx with k|k;exact .inl k;exact .inr (.inl k)
 obtain⟨u,r,l⟩:=hl i x v hi e1 vT;refine wpAny_AugAssign_Name ?_;have go:wpAny (model X.prog X.w) X.A (eval e X.env) (λw s₂=>wpAny (model X.prog X.w) X.A (inplaceOp op u w) (λr s₃=>wpAny (model X.prog X.w) X.A (storeName X.env x r) (λ_=>SP X Y D .next) X.xe s₃) X.xe s₂) X.xe s:=by
  refine ar (he Y s U H _ I h) λw s1 ⟨y,H1,I1,r1,q1⟩=>?_
  refine ar (ho Y s1 U H1 v y u w _ I1 r r1 q1) λz s2 ⟨zv,H2,I2,r2,q2⟩=>?_
  exact cF I2 hN hi hx r2 (λs3 I3=>⟨_,H2,I3,q2⟩) hf
 rcases l with⟨hk,hm⟩|⟨hk,c,hc,hcell⟩
 .exact wpAny_loadName_local I.ok.kind hk hn hm go
 .rcases hk with hk|hk
  .exact wpAny_loadName_cell I.ok.kind hk hc hcell go
  .rcases hx with k|k
   .have:X.env.scope.names.lookup x=some .free:=hk;rw[k]at this;cases this
   .have:X.env.scope.names.lookup x=some .free:=hk;rw[k]at this;cases this
abbrev yX (to ti te:TE)(tget:V->V->Hp->VK->Prop)(tip:yo)(tset:nq):TS:=λD U H=>to U H λo H1=>ti U H1 λi H2=>tget o i H2 λx H3=>te U H3 λy H4=>tip x y H4 λz H5=>tset o i z H5 λH6=>D.nx U H6
abbrev wV (X:Cx)(t:V->V->Hp->VK->Prop):Prop:=
 ∀ (Y:CD) (s:Shared) (U:St) (H:Hp) (o i:V) (ov iv:Value) (Q:VK),Inv X Y U H s->RelV o ov->RelV i iv->t o i H Q->
  wpAny (model X.prog X.w) X.A (getItem ov iv) (EP X Y U Q) X.xe s
def tP {o i:Expr}{to ti:TE}{tget:V->V->Hp->VK->Prop}{tip:yo}{tset:nq}{tpos:Pos}(ho:PE X o to)(hi:PE X i ti)(hg:wV X tget)(he:PE X e te)(hp:zU X op tip)(hs:sW X tset)
  (ha:∀ ov iv new,augStore i ov iv new=(do holding [new,ov,iv] (setItem ov iv new);release [new,ov,iv] [];pure .next):=by intros;rfl):PS X (.AugAssign (.Subscript o i tpos) op e pos) (yX to ti te tget tip tset):=by
 intro Y s U H D I h;refine wpAny_AugAssign_SubscriptAny (ar (ho Y s U H _ I h) λov s1 ⟨x1,H1,I1,r1,q1⟩=>?_) ha;refine ar (hi Y s1 U H1 _ I1 q1) λiv s2 ⟨x2,H2,I2,r2,q2⟩=>?_
 refine ar (hg Y s2 U H2 x1 x2 ov iv _ I2 r1 r2 q2) λold s3 ⟨x3,H3,I3,r3,q3⟩=>?_
 refine ar (he Y s3 U H3 _ I3 q3) λv s4 ⟨x4,H4,I4,r4,q4⟩=>?_
 refine ar (hp Y s4 U H4 x3 x4 old v _ I4 r3 r4 q4) λnew s5 ⟨x5,H5,I5,r5,q5⟩=>?_
 exact ar (hs Y s5 U H5 x1 x2 x5 ov iv new _ I5 r1 r2 r5 q5) λ_ s6 ⟨H6,I6,q6⟩=>⟨U,H6,I6,q6⟩
abbrev BG (f:Int->Int->Int):yo:=λx y H Q=>∃ i j,x=.int i/\y=.int j/\Q (.int (f i j)) H
def vV:zU X .Add (BG λi j=>i+j):=by
 intro Y s U H x y v u Q I r1 r2 h;obtain⟨i,j,e1,e2,q⟩:=h;subst e1;subst e2;obtain⟨t,rfl⟩:=r1;obtain⟨t',rfl⟩:=r2;exact iadd_int ⟨.int _,H,I.tok _,⟨_,rfl⟩,q⟩
def xk:zU X .Sub (BG λi j=>i-j):=by
 intro Y s U H x y v u Q I r1 r2 h;obtain⟨i,j,e1,e2,q⟩:=h;subst e1;subst e2;obtain⟨t,rfl⟩:=r1;obtain⟨t',rfl⟩:=r2;exact isub_int ⟨.int _,H,I.tok _,⟨_,rfl⟩,q⟩
end
section
variable {X:Cx}{pos:Pos}
end
structure It where
 go:Nat->Hp->Prop
 yld:Nat->Hp->V->Hp->Prop
 stop:Nat->Hp->Prop
abbrev gj (X:Cx)(Y:CD)(H:Hp)(b:Addr):Prop:=
 H b=none/\b≠X.env.locals/\b ∉ X.fs/\(b ∈ X.ex\/X.s₀.heap.objs.size<=b)/\(∀ x c,X.env.cells.lookup x=some c->c≠b)/\∀ p ∈ X.pn++Y,p.1≠b
def Inv.ql {X:Cx}{H':Hp}(I:Inv X Y U H s)(hb:s.heap.objs.size<=b)(hn:H' b=none):gj X Y H' b:=by
 refine⟨hn,Nat.ne_of_gt (nb I.lt hb),I.A6 hb,.inr (Nat.le_trans I.sz hb),λx c e z=>?_,λp hp z=>?_⟩
 .obtain⟨v,q⟩:=I.cell x c e;exact absurd (nb q.lt (by rw[z];exact hb)) (Nat.lt_irrefl _)
 .exact absurd (nb (ss (I.pin p hp).1) (by rw[z];exact hb)) (Nat.lt_irrefl _)
structure Turn (P:Program) (w:World) (K:W.Frag) (tg:Expr) (J:It) (fp:List Addr) (it:Addr) (tn:Nat->Heap->Prop):Prop where
 mem:it ∈ fp
 obj:∀ i h,tn i h->∀ b ∈ fp,∃ o,h.get? b=some o/\∀ v,o.data≠.cell v
 keep:∀ i h h',tn i h->(∀ b ∈ fp,∀ o,h.get? b=some o->h'.get? b=some o)->tn i h'
 item:∀ (X:Cx),X.prog=P->X.w=w->X.K=K->X.calm=true->∀ (i:Nat) (Y:CD) (s:Shared) (U:St) (H:Hp) (E:CC),Inv X Y U H s->(∀ b ∈ fp,gj X Y H b)->tn i s.heap->J.go i H->
  wpAny (model P w) X.A (pyNext (.ref it)) (λr s1=>∃ u,r=some u/\
   wpAny (model P w) X.A (letOwnedTupleGo tg (.ref it) u) (λ_ s2=>∃ x H',Inv X Y U H' s2/\RelV x u/\J.yld i H x H'/\tn (i+1) s2.heap/\∀ b ∈ fp,H' b=none) E s1) E s
 done:∀ (X:Cx),X.prog=P->X.w=w->X.K=K->X.calm=true->∀ (i:Nat) (Y:CD) (s:Shared) (U:St) (H:Hp) (E:CC),Inv X Y U H s->(∀ b ∈ fp,gj X Y H b)->tn i s.heap->J.stop i H->
  wpAny (model P w) X.A (pyNext (.ref it)) (λr s1=>r=none/\Inv X Y U H s1) E s
 self:∀ (A:Around) (i:Nat) (s:Shared) (Q:CC) (E:CC),tn i s.heap->Q (.ref it) s->wpAny (model P w) A (pyIter (.ref it)) Q E s
@[reducible]def TI:=St->Hp->(It->Hp->Prop)->Prop
abbrev xh (X:Cx)(Y:CD)(U:St)(tg:Expr)(R:It->Hp->Prop)(itv:Value)(s2:Shared):Prop:=
 ∃ (it:Addr) (fp:List Addr) (tn:Nat->Heap->Prop) (J:It) (H':Hp),itv=.ref it/\Inv X Y U H' s2/\Turn X.prog X.w X.K tg J fp it tn/\tn 0 s2.heap/\(∀ b ∈ fp,gj X Y H' b)/\R J H'
abbrev PI (X:Cx)(tg iter:Expr)(wi:TI):Prop:=
 ∀ (Y:CD) (s:Shared) (U:St) (H:Hp) (R:It->Hp->Prop),Inv X Y U H s->wi U H R->
  wpAny (model X.prog X.w) X.A (eval iter X.env) (λv s1=>wpAny (model X.prog X.w) X.A (pyIter v) (xh X Y U tg R) X.xe s1) X.xe s
def kf {it:Addr}{o:Obj}{n:String}{vs:Array Value}{Q:CB}(ho:s.heap.get? it=some o)(hc:o.cls=.type n)(hd:o.data=.fields vs)
  (hn:["enumerate","zip","dict_itemiterator","dict_reverseitemiterator","odict_iterator","itertools.zip_longest","itertools.pairwise"].contains n=false) (hQ:Q () s):wpAny M A (letOwnedTupleGo tg (.ref it) u) Q E s:=by
 unfold letOwnedTupleGo;cases tg<;>first
  |exact am hQ
  |(cases u<;>first
    |exact am hQ
    |(refine ad (wpAny_load ho ?_)
      rw[hc,hd];show wpAny M A (if(["enumerate","zip","dict_itemiterator","dict_reverseitemiterator","odict_iterator","itertools.zip_longest","itertools.pairwise"].contains n&&vs[0]? ==some (rawInt _))=true then _ else _) Q E s;rw[if_neg (by intro h;rw[hn,Bool.false_and]at h;cases h)];exact am hQ))
abbrev yp (K:W.Frag)(a:Addr):It:=
 ⟨λi H=>∃ xs x,aA K H a xs/\xs[i]? =some x,λi H x H'=>H'=H/\∀ xs,aA K H a xs->xs[i]? =some x,λi H=>∃ xs,aA K H a xs/\xs.length<=i⟩
abbrev AW (K:W.Frag)(a:Addr):It:=
 ⟨λi H=>∃ xs x,cV K H a xs/\xs[i]? =some x,λi H x H'=>H'=H/\∀ xs,cV K H a xs->xs[i]? =some x,λi H=>∃ xs,cV K H a xs/\xs.length<=i⟩
abbrev yu (lo:Int)(n:Nat):It:=⟨λi _=>i<n,λi H x H'=>H'=H/\x=.int (lo+i),λi _=>n<=i⟩
def nF (a it:Addr):Turn P w K tg (yp K a) [it] it (λi h=>h.IsListIter it a i) where
 mem:=by simp
 obj:=λi h st b hb=>by
  have e:b=it:=by simpa using hb
  subst e;obtain⟨o,e,c,d⟩:=st;exact⟨o,e,λv z=>by rw[d]at z;cases z⟩
 keep:=λi h h' st k=>st.at λo e=>k it (by simp) o e
 item:=by
  intro X hP hw hK hc i Y s U H E I hf st hg;subst hP hw hK;obtain⟨xs,x,hq,hx⟩:=hg;obtain⟨its,rv,p,hz⟩:=I.list hq;obtain⟨u,hu,ru⟩:=rv.get hx;obtain⟨f0,f1,f2,f3,f4,f5⟩:=hf it (by simp);refine wpAny_pyNext_list_item st p.isList (x:=u) (by simpa using hu) λh' st' sb=>?_
  have I1:Inv X Y U H { s with heap:=h' }:=I.turned (t':=s.toks) (λb o hb e=>(sb.2 b hb).trans e) f0 f1 f3 f4 f5;obtain⟨o,e,c,d⟩:=id st';exact⟨u,rfl,kf (s:={ s with heap:=h' }) e c d (by decide) ⟨x,H,I1,ru,⟨rfl,λys hy=>by rw[I.dJ hy hq];exact hx⟩,st',λb hb=>(hf b hb).1⟩⟩
 done:=by
  intro X hP hw hK hc i Y s U H E I hf st hg;subst hP hw hK;obtain⟨xs,hq,hx⟩:=hg;obtain⟨its,rv,p,hz⟩:=I.list hq;obtain⟨f0,f1,f2,f3,f4,f5⟩:=hf it (by simp);have hl:=rv.length;exact wpAny_pyNext_list_end (I.ok.hd hc) st p.isList (by simp;omega) λh' eb=>⟨rfl,I.turned (t':=s.toks) (λb o hb e=>eb b o hb e) f0 f1 f3 f4 f5⟩
 self:=λ_ _ _ _ _ st h=>wpAny_pyIter_listiter st h
def lu (a it:Addr):Turn P w K tg (AW K a) [it] it (λi h=>h.IsTupleIter it a i) where
 mem:=by simp
 obj:=λi h st b hb=>by
  have e:b=it:=by simpa using hb
  subst e;obtain⟨o,e,c,d⟩:=st;exact⟨o,e,λv z=>by rw[d]at z;cases z⟩
 keep:=λi h h' st k=>st.at λo e=>k it (by simp) o e
 item:=by
  intro X hP hw hK hc i Y s U H E I hf st hg;subst hP hw hK;obtain⟨xs,x,hq,hx⟩:=hg;obtain⟨its,rv,p,hz⟩:=I.tuple hq;obtain⟨u,hu,ru⟩:=rv.get hx;obtain⟨f0,f1,f2,f3,f4,f5⟩:=hf it (by simp);refine wpAny_pyNext_tuple_item st (show s.heap.IsTuple a its.toArray from p) (x:=u) (by simpa using hu) λh' st' sb=>?_
  have I1:Inv X Y U H { s with heap:=h' }:=I.turned (t':=s.toks) (λb o hb e=>(sb.2 b hb).trans e) f0 f1 f3 f4 f5;obtain⟨o,e,c,d⟩:=id st';exact⟨u,rfl,kf (s:={ s with heap:=h' }) e c d (by decide) ⟨x,H,I1,ru,⟨rfl,λys hy=>by rw[I.gK hy hq];exact hx⟩,st',λb hb=>(hf b hb).1⟩⟩
 done:=by
  intro X hP hw hK hc i Y s U H E I hf st hg;subst hP hw hK;obtain⟨xs,hq,hx⟩:=hg;obtain⟨its,rv,p,hz⟩:=I.tuple hq;obtain⟨f0,f1,f2,f3,f4,f5⟩:=hf it (by simp);have hl:=rv.length;exact wpAny_pyNext_tuple_end (I.ok.hd hc) st (show s.heap.IsTuple a its.toArray from p) (by simp;omega) λh' eb=>⟨rfl,I.turned (t':=s.toks) (λb o hb e=>eb b o hb e) f0 f1 f3 f4 f5⟩
 self:=λ_ _ _ _ _ st h=>wpAny_pyIter_tupleiter st h
def k4 (it:Addr)(lo:Int)(n:Nat):Turn P w K tg (yu lo n) [it] it (λi h=>IsRangeIter h it (lo+(i:Nat)*1) ((n:Int)-(i:Nat)) 1) where
 mem:=by simp
 obj:=λi h st b hb=>by
  have e:b=it:=by simpa using hb
  subst e;exact⟨_,st,λv z=>by
   have z':Data.fields _=Data.cell v:=z;cases z'⟩
 keep:=λi h h' st k=>k it (by simp) _ st
 item:=by
  intro X hP hw hK hc i Y s U H E I hf st hg;subst hP hw hK;obtain⟨f0,f1,f2,f3,f4,f5⟩:=hf it (by simp);have W:=Walks.range (prog:=X.prog) (w:=X.w) (I.ok.hd hc) it lo 1 n;refine W.item i s _ _ hg st λv h' tk hv st' kk=>?_
  obtain⟨t,rfl⟩:=hv;have I1:Inv X Y U H { s with heap:=h',toks:=tk }:=I.turned (λb o hb e=>kk b o (by simpa using hb) e) f0 f1 f3 f4 f5;refine⟨_,rfl,kf (s:={ s with heap:=h',toks:=tk }) (n:="range_iterator") st' rfl rfl (by decide) ⟨.int (lo+i),H,I1,⟨t,?_⟩,⟨rfl,rfl⟩,st',λb hb=>(hf b hb).1⟩⟩;rw[Int.mul_one]
 done:=by
  intro X hP hw hK hc i Y s U H E I hf st hg;subst hP hw hK;obtain⟨f0,f1,f2,f3,f4,f5⟩:=hf it (by simp);exact wpAny_pyNext_range_end (I.ok.hd hc) st (by have:n<=i:=hg;omega) λh' eb=>⟨rfl,I.turned (t':=s.toks) (λb o hb e=>eb b o hb e) f0 f1 f3 f4 f5⟩
 self:=λ_ _ _ _ _ st h=>wpAny_pyIter_rangeiter st h
variable {pos:Pos}{fp:List Addr}{body:List Stmt}
section
variable {X:Cx}{tg:Expr}
def qc {R:It->Hp->Prop}{lo hi:Int}{t u v:Tok}{tk:Nat}(I:Inv X Y U H s)(h1: -(2 ^ 62)<=lo)(h2:lo<2 ^ 62)(h3: -(2 ^ 62)<=hi)(h4:hi<2 ^ 62)
  (q:R (yu lo (hi-lo).toNat) H):wpAny (model X.prog X.w) X.A (pyIter (.ref s.heap.objs.size)) (xh X Y U tg R) E { s with heap:=s.heap.push { cls:=.type "range",data:=.fields #[.int lo t,.int hi u,.int 1 v] },toks:=tk }:=by
 refine wpAny_pyIter_range (IsRange.new ..) (small_one h1 h2 h3 h4) ?_;have I1:Inv X Y U H { s with heap:=s.heap.push { cls:=.type "range",data:=.fields #[.int lo t,.int hi u,.int 1 v] },toks:=tk }:=I.kept λb o e=>sn _ e
 refine⟨(s.heap.push { cls:=.type "range",data:=.fields #[.int lo t,.int hi u,.int 1 v] }).objs.size,[(s.heap.push { cls:=.type "range",data:=.fields #[.int lo t,.int hi u,.int 1 v] }).objs.size],_,_,H,rfl,
  I1.kept (t':=tk) λb o e=>sn _ e,k4 _ lo (hi-lo).toNat,?_,λb hb=>?_,q⟩
 .have e1:lo+((0:Nat):Int)*1=lo:=by simp
  have e2:(((hi-lo).toNat:Nat):Int)-((0:Nat):Int)=Builtin.Range.rangeSize lo hi 1:=by rw[rangeSize_one];split<;>omega
  show IsRangeIter _ _ (lo+((0:Nat):Int)*1) ((((hi-lo).toNat:Nat):Int)-((0:Nat):Int)) 1;rw[e1,e2];exact sw _ rfl
 .have e:b=(s.heap.push { cls:=.type "range",data:=.fields #[.int lo t,.int hi u,.int 1 v] }).objs.size:=by simpa using hb
  subst e;exact I1.ql (ol _) (I1.hok.fresh (ol _))
abbrev zF (ta:TA):TI:=λU H R=>ta U H λvs H1=>∃ j:Int,vs=[.int j]/\ -(2 ^ 62)<=j/\j<2 ^ 62/\R (yu 0 j.toNat) H1
def nW {a:Expr}{ta:TA}{p:Pos}(hg:Gl X "range") (hm:X.mg "range"=none) (ha:PA X [a] ta) (hs:bm [a] X.env=[(false,eval a X.env)]:=by rfl):PI X tg (.Call (.Name "range" p) [a] [] pos) (zF ta):=by
 intro Y s U H R I h;refine Call_ (i8 I hg hm boot_range (PyProof.Rows.callWith_type1 (ar (ha pos Y s U H _ I h) λus s1 ⟨vs,H1,I1,r1,q1⟩=>?_) hs rfl));obtain⟨j,e,q1,q2,q⟩:=q1;subst e;cases r1 with
 |cons r rr=>
  cases rr;obtain⟨t,rfl⟩:=r;exact call_range_1 (qc I1 nofun nofun q1 q2 (by simpa using q))
abbrev AD (wi:TI)(g:TG)(tb:TS):TS:=λD U H=>wi U H λJ H1=>∃ W:Nat->Nat->St->Hp->Prop,(∃ m,W 0 m U H1)/\∀ i m U H,W i m U H->
 (J.stop i H/\D.nx U H)\/(J.go i H/\∃ N:St->Hp->Prop,(∀ σ' H',N σ' H'->∃ m',m'<m/\W (i+1) m' σ' H')/\∀ x H',J.yld i H x H'->g x U H' λσ2 H2=>tb { D with nx:=N,ct:=N,bk:=D.nx } σ2 H2)
abbrev iX (fp:List Addr)(h:Heap):List (Addr×Obj):=fp.filterMap λb=>(h.get? b).map λo=>(b,o)
def aQ {o:Obj}(hb:b ∈ fp)(e:h.get? b=some o):(b,o) ∈ iX fp h:=List.mem_filterMap.mpr ⟨b,hb,by rw[e];rfl⟩
def nh {p:Addr×Obj}(hp:p ∈ iX fp h):p.1 ∈ fp/\h.get? p.1=some p.2:=by
 obtain⟨b,hb,e⟩:=List.mem_filterMap.mp hp;cases q:h.get? b with
 |none=>rw[q]at e;cases e
 |some o=>
  rw[q]at e;have e':(b,o)=p:=Option.some.inj e;subst e';exact⟨hb,q⟩
def Inv.pinned (I:Inv X Y U H s)(hf:∀ b ∈ fp,gj X Y H b) (ho:∀ b ∈ fp,∃ o,s.heap.get? b=some o/\∀ v,o.data≠.cell v):Inv X (Y++iX fp s.heap) U H s:=
 I.ip λp hp=>(mem_append.mp hp).elim (λz=>I.pin p (ii _ z)) λz=>by
  obtain⟨hb,e⟩:=nh z;obtain⟨f0,f1,f2,_⟩:=hf p.1 hb;obtain⟨o,e',d⟩:=ho p.1 hb;rw[e]at e';cases e';exact⟨e,f0,f1,f2,d⟩
def Inv.cq {pl:CD}(I:Inv X (Y++pl) U H s):Inv X Y U H s:=I.ip λp hp=>I.pin p (ii _ (mem_append_left _ hp))
def yg {iter:Expr}{wi:TI}{g:TG}{tb:TS}(hp:PassesOwn (model X.prog X.w) X.A X.env X.xe)(hc:X.calm=true)(hi:PI X tg iter wi)(hg:PG X tg g)(hb:vC X body tb)
  (hs:∀ x,foldedSetIterable iter X.env x=pure x:=by intro _;rfl):PS X (.For tg iter body [] pos) (AD wi g tb):=by
 intro Y s U H D I h;refine wpAny_For (ar (hi Y s U H _ I h) λv s1 h1=>ar h1 λitv s2 h2=>?_) hs;obtain⟨it,fp,tn,J,H2,e,I2,T,lQ,f2,W,⟨m0,w0⟩,turn⟩:=h2;subst e;have stat:∀ {H':Hp},(∀ b ∈ fp,H' b=none)->∀ b ∈ fp,gj X Y H' b:=λhn b hb=>⟨hn b hb,(f2 b hb).2⟩
 refine codeAny_forLoop_any (λn s'=>∃ i σ' H',Inv X Y σ' H' s'/\tn i s'.heap/\(∀ b ∈ fp,H' b=none)/\W i n σ' H') ?_ m0 ⟨0,U,H2,I2,lQ,λb hb=>(f2 b hb).1,w0⟩;rintro n s3 ⟨i,σ3,H3,I3,st3,fr3,w3⟩;rcases turn i n σ3 H3 w3 with⟨stop,qn⟩|⟨go,N,hN,step⟩
 .refine wpAny_passesOwn hp (ar (T.done X rfl rfl rfl hc i Y s3 σ3 H3 X.xe I3 (stat fr3) st3 stop) λr s4 ⟨hr,I4⟩=>?_);subst hr;exact wpAny_execs_nil ⟨σ3,H3,I4,qn⟩
 .refine wpAny_passesOwn hp (ar (T.item X rfl rfl rfl hc i Y s3 σ3 H3 X.xe I3 (stat fr3) st3 go) λr s4 ⟨u,hr,h4⟩=>?_);subst hr;refine wpAny_passesOwn hp (ar h4 λ_ s5 ⟨x,H5,I5,r5,y5,st5,fr5⟩=>?_);have I5':=I5.pinned (stat fr5) (T.obj _ _ st5);refine wpAny_passesOwn hp (ar (hg _ s5 σ3 H5 x u _ I5' r5 (step x H5 y5)) λ_ s6 ⟨σ6,H6,I6,q6⟩=>?_);refine wpAny_passesOwn hp (ar (hb _ s6 σ6 H6 _ I6 q6) λf s7 q7=>?_);have again:∀ {σ7:St}{H7:Hp},Inv X (Y++iX fp s5.heap) σ7 H7 s7->N σ7 H7->∃ m,m<n/\∃ i σ' H',Inv X Y σ' H' s7/\tn i s7.heap/\(∀ b ∈ fp,H' b=none)/\W i m σ' H':=λ{σ7 H7} I7 n7=>by
   obtain⟨m',hm,w7⟩:=hN σ7 H7 n7;refine⟨m',hm,i+1,σ7,H7,I7.cq,T.keep _ _ _ st5 λb hb o e=>(I7.pin (b,o) (ii _ (ii _ (aQ hb e)))).1,λb hb=>?_,w7⟩;obtain⟨o,e,d⟩:=T.obj _ _ st5 b hb;exact(I7.pin (b,o) (ii _ (ii _ (aQ hb e)))).2.1
  cases f with
  |next=>obtain⟨σ7,H7,I7,n7⟩:=q7;exact again I7 n7
  |cont=>obtain⟨σ7,H7,I7,n7⟩:=q7;exact again I7 n7
  |brk=>obtain⟨σ7,H7,I7,q7⟩:=q7;exact⟨σ7,H7,I7.cq,q7⟩
  |ret v=>obtain⟨x7,σ7,H7,I7,r7,q7⟩:=q7;exact⟨x7,σ7,H7,I7.cq,r7,q7⟩
end
@[reducible]def R2:=V->V->Hp->VK->Prop
abbrev bp (X:Cx)(f:Value->Value->Sem Value)(r:R2):Prop:=
 ∀ (Y:CD) (s:Shared) (U:St) (H:Hp) (x y:V) (v u:Value) (Q:VK),Inv X Y U H s->RelV x v->RelV y u->r x y H Q->
  wpAny (model X.prog X.w) X.A (f v u) (EP X Y U Q) X.xe s
abbrev Ax (X:Cx)(f:Value->Sem Value)(r:V->Hp->VK->Prop):Prop:=
 ∀ (Y:CD) (s:Shared) (U:St) (H:Hp) (x:V) (v:Value) (Q:VK),Inv X Y U H s->RelV x v->r x H Q->
  wpAny (model X.prog X.w) X.A (f v) (EP X Y U Q) X.xe s
abbrev bG (X:Cx)(f:Value)(r:List V->Hp->VK->Prop):Prop:=
 ∀ (Y:CD) (s:Shared) (U:St) (H:Hp) (xs:List V) (us:List Value) (Q:VK),Inv X Y U H s->Vals xs us->r xs H Q->
  wpAny (model X.prog X.w) X.A (call f us) (EP X Y U Q) X.xe s
abbrev AF (X:Cx)(r:V->Hp->(Bool->Hp->Prop)->Prop):Prop:=
 ∀ (Y:CD) (s:Shared) (U:St) (H:Hp) (x:V) (v:Value) (Q:Bool->Hp->Prop),Inv X Y U H s->RelV x v->r x H Q->
  wpAny (model X.prog X.w) X.A (truthy v) (TP X Y U Q) X.xe s
abbrev Am (r:R2)(ta tb:TE):TE:=λU H Q=>ta U H λx H1=>tb U H1 λy H2=>r x y H2 Q
abbrev Cc (r:V->Hp->VK->Prop)(ta:TE):TE:=λU H Q=>ta U H λx H1=>r x H1 Q
abbrev rI (C:Int->Int->Prop)(g:Int->Int->V):R2:=λx y H Q=>∃ i j,x=.int i/\y=.int j/\C i j/\Q (g i j) H
abbrev tT (g:Int->Int->V):R2:=λx y H Q=>∃ i j,x=.int i/\y=.int j/\Q (g i j) H
abbrev rU (g:Int->V):V->Hp->VK->Prop:=λx H Q=>∃ i,x=.int i/\Q (g i) H
variable {f:Value->Value->Sem Value}{r:R2}{g:Int->Int->Int}
section
variable {X:Cx}{a b c:Expr}{ta tb tc:TE}{pos:Pos}
def vZ (ha:PE X a ta)(hb:PE X b tb){R:V->V->Hp->Prop}(I:Inv X Y U H s)
  (h:ta U H λx H1=>tb U H1 λy H2=>R x y H2)
  (hf:∀ v u s2 x y H2,Inv X Y U H2 s2->RelV x v->RelV y u->R x y H2->wpAny (model X.prog X.w) X.A (f v u) Q X.xe s2):
  wpAny (model X.prog X.w) X.A (eval a X.env) (λv s₁=>wpAny (model X.prog X.w) X.A (eval b X.env) (λu s₂=>wpAny (model X.prog X.w) X.A (f v u) Q X.xe s₂) X.xe s₁) X.xe s:=by
 refine ar (ha Y s U H _ I h) λv s1 ⟨x,H1,I1,r1,q1⟩=>?_
 refine ar (hb Y s1 U H1 _ I1 q1) λu s2 ⟨y,H2,I2,r2,q2⟩=>?_
 exact hf v u s2 x y H2 I2 r1 r2 q2
def zE (ho:bp X (binaryOp op) r)(ha:PE X a ta)(hb:PE X b tb):PE X (.BinOp a op b pos) (Am r ta tb):=by
 intro Y s U H Q I h;exact wpAny_BinOp (vZ ha hb I h λv u s2 x y H2 I2 rx ry q=>ho Y s2 U H2 x y v u Q I2 rx ry q)
def zu {op:UnaryOp}{r:V->Hp->VK->Prop}(ho:Ax X (unaryOp op) r)(ha:PE X a ta):PE X (.UnaryOp op a pos) (Cc r ta):=by
 intro Y s U H Q I h;exact UnaryOp_ (ar (ha Y s U H _ I h) λv s1 ⟨x,H1,I1,r1,q1⟩=>ho Y s1 U H1 x v Q I1 r1 q1)
def Ay {C:Int->Int->Prop}
  (rule:∀ (i j:Int) (t u:Tok) (s:Shared) (Q:CC) (E:CC),C i j->Q (.int (g i j) s.toks) { s with toks:=s.toks+1 }->wpAny (model X.prog X.w) X.A (f (.int i t) (.int j u)) Q E s):
  bp X f (rI C λi j=>.int (g i j)):=by
 intro Y s U H x y v u Q I rx ry h;obtain⟨i,j,rfl,rfl,hc,q⟩:=h;obtain⟨t,rfl⟩:=rx;obtain⟨t',rfl⟩:=ry;exact rule i j t t' s _ _ hc ⟨.int (g i j),H,I.tok _,⟨_,rfl⟩,q⟩
def zp 
  (rule:∀ (i j:Int) (t u:Tok) (s:Shared) (Q:CC) (E:CC),Q (.int (g i j) s.toks) { s with toks:=s.toks+1 }->wpAny (model X.prog X.w) X.A (f (.int i t) (.int j u)) Q E s):
  bp X f (tT λi j=>.int (g i j)):=by
 intro Y s U H x y v u Q I rx ry h;obtain⟨i,j,rfl,rfl,q⟩:=h;obtain⟨t,rfl⟩:=rx;obtain⟨t',rfl⟩:=ry;exact rule i j t t' s _ _ ⟨.int (g i j),H,I.tok _,⟨_,rfl⟩,q⟩
def ug {g:Int->Int->Bool}
  (rule:∀ (i j:Int) (t u:Tok) (s:Shared) (Q:CC) (E:CC),Q (.bool (g i j)) s->wpAny (model X.prog X.w) X.A (f (.int i t) (.int j u)) Q E s):
  bp X f (tT λi j=>.bl (g i j)):=by
 intro Y s U H x y v u Q I rx ry h;obtain⟨i,j,rfl,rfl,q⟩:=h;obtain⟨t,rfl⟩:=rx;obtain⟨t',rfl⟩:=ry;exact rule i j t t' s _ _ ⟨.bl (g i j),H,I,rfl,q⟩
abbrev Bv (i j:Int):Prop:=0<j/\j<1073741824
abbrev uI (i j:Int):Prop:=0<=j/\j<=1000000/\i.natAbs<2 ^ 64
abbrev nI (i j:Int):Prop:=(-(2 ^ 64)<i/\i<2 ^ 64)\/(-(2 ^ 64)<j/\j<2 ^ 64)
def nI.ok {i j:Int}(h:nI i j):IntMulOk i j:=by
 rcases h with⟨h1,h2⟩|⟨h1,h2⟩
 .exact .of_left (intBits_le_64 h1 h2)
 .exact .of_right (intBits_le_64 h1 h2)
def vP:bp X (binaryOp .Add) (tT λi j=>.int (i+j)):=zp λ_ _ _ _ _ _ _ q=>add_int q
def xV:bp X (binaryOp .Sub) (tT λi j=>.int (i-j)):=zp λ_ _ _ _ _ _ _ q=>sub_int q
def vY:bp X (binaryOp .Mult) (rI nI λi j=>.int (i*j)):=Ay λ_ _ _ _ _ _ _ hc q=>mul_int q hc.ok
def uf:bp X (binaryOp .FloorDiv) (rI Bv λi j=>.int (i / j)):=Ay λi j _ _ _ _ _ hc q=>by
 have h1:(0:Int)<j:=hc.1;have h2:j<1073741824:=hc.2;exact floordiv_int nofun (by rw[Int.fdiv_eq_ediv_of_nonneg i nofun];exact q) (.inl (PyProof.noPylong_small nofun))
def vW:bp X (binaryOp .Mod) (rI (λ_ j=>0<j) λi j=>.int (i % j)):=Ay λi j _ _ _ _ _ hc q=>by
 have h1:(0:Int)<j:=hc;exact mod_int' nofun (by rw[Int.fmod_eq_emod_of_nonneg i nofun];exact q)
def xE:bp X (binaryOp .Pow) (rI uI λi j=>.int (i ^ j.toNat)):=Ay λ_ _ _ _ _ _ _ hc q=>pow_int_small hc.1 hc.2.1 hc.2.2 q
def Cp {f:Value->Sem Value}{g:Int->Int}
  (rule:∀ (i:Int) (t:Tok) (s:Shared) (Q:CC) (E:CC),Q (.int (g i) s.toks) { s with toks:=s.toks+1 }->wpAny (model X.prog X.w) X.A (f (.int i t)) Q E s):
  Ax X f (rU λi=>.int (g i)):=by
 intro Y s U H x v Q I rx h;obtain⟨i,rfl,q⟩:=h;obtain⟨t,rfl⟩:=rx;exact rule i t s _ _ ⟨.int (g i),H,I.tok _,⟨_,rfl⟩,q⟩
def xH:Ax X (unaryOp .USub) (rU λi=>.int (-i)):=Cp λ_ _ _ _ _ q=>neg_int q
end
section
variable {X:Cx}{a b c:Expr}{ta tb tc:TE}{pos:Pos}
def iZ {Q:VK}{k k':Bool}(I:Inv X Y U H s)(q:Q (.bl k) H)(e:k=k'):EP X Y U Q (.bool k') s:=by
 subst e;exact⟨.bl k,H,I,rfl,q⟩
def zH:bp X (compareOp .Lt) (tT λi j=>.bl (decide (i<j))):=ug λ_ _ _ _ _ _ _ q=>lt_int q
def zj:bp X (compareOp .LtE) (tT λi j=>.bl (decide (i<=j))):=ug λ_ _ _ _ _ _ _ q=>le_int q
def yE:bp X (compareOp .Gt) (tT λi j=>.bl (decide (j<i))):=ug λ_ _ _ _ _ _ _ q=>gt_int q
def zB:bp X (compareOp .GtE) (tT λi j=>.bl (decide (j<=i))):=ug λ_ _ _ _ _ _ _ q=>ge_int q
def nu:bp X (compareOp .In) (λx y H Q=>∃ i j,x=.str i/\y=.str j/\Q (.bl (!(Builtin.Str.occurrences j i 0 j.length 1).isEmpty)) H):=by
 intro Y s U H x y v u Q I rx ry h;obtain⟨i,j,rfl,rfl,q⟩:=h;obtain⟨t,rfl⟩:=rx;obtain⟨t',rfl⟩:=ry;exact in_str (iZ I q rfl)
def xN:bp X (compareOp .Is) (λx y H Q=>y=.non/\Q (.bl (decide (x=.non))) H):=by
 intro Y s U H x y v u Q I rx ry h;obtain⟨rfl,q⟩:=h;cases ry;refine is_none_gen (iZ I q ?_);cases x<;>first
  |(cases rx;rfl)
  |(obtain⟨t,rfl⟩:=rx;rfl)
def uy:bp X (compareOp .IsNot) (λx y H Q=>y=.non/\Q (.bl (!decide (x=.non))) H):=by
 intro Y s U H x y v u Q I rx ry h;obtain⟨rfl,q⟩:=h;cases ry;refine isnot_none_gen (iZ I q ?_);cases x<;>first
  |(cases rx;rfl)
  |(obtain⟨t,rfl⟩:=rx;rfl)
def iS:bp X (compareOp .NotIn) (λx y H Q=>∃ i j,x=.str i/\y=.str j/\Q (.bl (!(!(Builtin.Str.occurrences j i 0 j.length 1).isEmpty))) H):=by
 intro Y s U H x y v u Q I rx ry h;obtain⟨i,j,rfl,rfl,q⟩:=h;obtain⟨t,rfl⟩:=rx;obtain⟨t',rfl⟩:=ry;exact notIn_str (iZ I q rfl)
def sR {op:CmpOp}(ho:bp X (compareOp op) r)(ha:PE X a ta)(hb:PE X b tb)(hm:behindInMarks op b=false):PE X (.Compare a [op] [b] pos) (Am r ta tb):=by
 intro Y s U H Q I h;exact wpAny_Compare1 (vZ ha hb I h λv u s2 x y H2 I2 rx ry q=>ho Y s2 U H2 x y v u Q I2 rx ry q) hm
abbrev vb (t:TE):TT:=λU H Q=>t U H λx H'=>∃ k,x=.bl k/\Q k H'
def ue {op:CmpOp}(ho:bp X (compareOp op) r)(ha:PE X a ta)(hb:PE X b tb)(hm:behindInMarks op b=false):PT X (.Compare a [op] [b] pos) (vb (Am r ta tb)):=by
 intro Y s U H Q I h;refine wpAny_isTrue_Compare1 (ar (ha Y s U H _ I h) λv s1 ⟨x,H1,I1,r1,q1⟩=>ar (hb Y s1 U H1 _ I1 q1) λu s2 ⟨y,H2,I2,r2,q2⟩=>
  ar (ho Y s2 U H2 x y v u _ I2 r1 r2 q2) λc s3 ⟨z,H3,I3,r3,k,e,q3⟩=>?_) hm
 subst e;cases r3;exact bi ⟨H3,I3,q3⟩
abbrev qU (r r':R2)(ta tb tc:TE):TE:=λU H Q=>ta U H λx H1=>tb U H1 λy H2=>r x y H2 λz H3=>∃ k,z=.bl k/\
 (if k=true then tc U H3 λw' H4=>r' y w' H4 Q else Q (.bl false) H3)
def qb {op op':CmpOp}{r':R2}(ho:bp X (compareOp op) r)(ho':bp X (compareOp op') r')(ha:PE X a ta)(hb:PE X b tb)(hc:PE X c tc)
  (hm:lastMarks [op,op'] [b,c]=false:=by with_unfolding_all rfl):PE X (.Compare a [op,op'] [b,c] pos) (qU r r' ta tb tc):=by
 intro Y s U H Q I h;refine Compare_chain (ar (ha Y s U H _ I h) λv s1 ⟨x,H1,I1,r1,q1⟩=>chain_link (ar (hb Y s1 U H1 _ I1 q1) λu s2 ⟨y,H2,I2,r2,q2⟩=>
  ar (ho Y s2 U H2 x y v u _ I2 r1 r2 q2) λd s3 ⟨z,H3,I3,r3,k,e,q3⟩=>?_)) hm
 subst e;cases r3;refine bi ?_;cases k with
 |false=>exact ite_ff ⟨.bl false,H3,I3,rfl,q3⟩
 |true=>exact ite_tt (chain_last (ar (hc Y s3 U H3 _ I3 q3) λw' s4 ⟨z',H4,I4,r4,q4⟩=>ho' Y s4 U H4 y z' u w' Q I4 r2 r4 q4))
def pC {op op':CmpOp}{r':R2}(ho:bp X (compareOp op) r)(ho':bp X (compareOp op') r')(ha:PE X a ta)(hb:PE X b tb)(hc:PE X c tc)
  (hm:lastMarks [op,op'] [b,c]=false:=by with_unfolding_all rfl):PT X (.Compare a [op,op'] [b,c] pos) (vb (qU r r' ta tb tc)):=by
 intro Y s U H Q I h;refine isTrue_chain (ar (ha Y s U H _ I h) λv s1 ⟨x,H1,I1,r1,q1⟩=>test_link (ar (hb Y s1 U H1 _ I1 q1) λu s2 ⟨y,H2,I2,r2,q2⟩=>
  ar (ho Y s2 U H2 x y v u _ I2 r1 r2 q2) λd s3 ⟨z,H3,I3,r3,k,e,q3⟩=>?_)) hm
 subst e;cases r3;refine bi ?_;cases k with
 |false=>
  obtain⟨k',e',q'⟩:=q3;cases e';exact ite_ff ⟨H3,I3,q'⟩
 |true=>
  refine ite_tt (test_last (ar (hc Y s3 U H3 _ I3 q3) λw' s4 ⟨z',H4,I4,r4,q4⟩=>ar (ho' Y s4 U H4 y z' u w' _ I4 r2 r4 q4) λd' s5 ⟨z2,H5,I5,r5,k2,e2,q5⟩=>?_));subst e2;cases r5;exact bi ⟨H5,I5,q5⟩
abbrev uK (K:W.Frag)(x:V)(H:Hp)(k:Bool):Prop:=
 match x with
 | .non=>k=false
 | .bl b=>k=b
 | .int i=>k=(i != 0)
 | .str y=>y.length<=bn/\k=((y.length:Int) != 0)
 | .byt y=>y.size<=bn/\k=((y.size:Int) != 0)
 | .ref p=>(∃ xs,aA K H p xs/\k= !xs.isEmpty)\/(∃ xs,cV K H p xs/\k= !xs.isEmpty)\/∃ kvs,H p=some (.dK kvs)/\k= !kvs.isEmpty
 |_=>False
def kF {κ:Type}{kvs:List (κ×V)}{vs:List (κ×Value)}(r:KV kvs vs):(!vs.isEmpty)= !kvs.isEmpty:=by
 cases r<;>rfl
def fO {its:List Value}(r:Vals xs its):(!its.toArray.isEmpty)= !xs.isEmpty:=by
 cases r<;>simp
def de:(bn:Nat)<2 ^ 63:=by rw[sizeLine_eq];decide
def xB:AF X (λx H Q=>∃ k,uK X.K x H k/\Q k H):=by
 intro Y s U H x v Q I rx h;obtain⟨k,e,q⟩:=h;have hl:=de;have hs:bn=16777216:=sizeLine_eq;cases x with
 |non=>
  cases rx;have e':k=false:=e;subst e';exact truthy_none ⟨H,I,q⟩
 |bl b=>
  cases rx;have e':k=b:=e;subst e';exact bi ⟨H,I,q⟩
 |int i=>
  obtain⟨t,rfl⟩:=rx;have e':k=(i != 0):=e;subst e';exact PySem.P.truthy_int ⟨H,I,q⟩
 |str y=>
  obtain⟨t,rfl⟩:=rx;obtain⟨hy,e'⟩:y.length<=bn/\k=((y.length:Int) != 0):=e;subst e';exact PySem.P.truthy_str nofun ⟨H,I.tok _,q⟩
 |byt y=>
  obtain⟨t,rfl⟩:=rx;obtain⟨hy,e'⟩:y.size<=bn/\k=((y.size:Int) != 0):=e;subst e';exact W.truthy_bytes nofun ⟨H,I.tok _,q⟩
 |ref p=>
  cases rx;have e':(∃ xs,aA X.K H p xs/\k= !xs.isEmpty)\/(∃ xs,cV X.K H p xs/\k= !xs.isEmpty)\/∃ kvs,H p=some (.dK kvs)/\k= !kvs.isEmpty:=e;rcases e' with⟨xs,hx,e'⟩|⟨xs,hx,e'⟩|⟨kvs,hx,e'⟩
  .subst e';obtain⟨its,r,pl,hz⟩:=I.list hx;have hlen:=r.length;exact wpAny_truthy_list pl.isList (by simp only[ge];omega) ⟨H,I.tok _,by rw[fO r];exact q⟩
  .subst e';obtain⟨its,r,pl,hz⟩:=I.tuple hx;have hlen:=r.length;exact truthy_tuple pl (by simp only[ge];omega) ⟨H,I.tok _,by rw[fO r];exact q⟩
  .subst e';obtain⟨hz,hS,vs,r,m⟩:kvs.length<=bn/\(p ==sysModules)=false/\∃ vs,KV kvs vs/\s.heap.DictOf (aw X.prog X.w) p vs:=I.hok p _ hx;have hlen:kvs.length=vs.length:=Paired.length r;exact wpAny_truthy_dict hS m nofun ⟨H,I.tok _,by rw[kF r];exact q⟩
 |_=>exact(show False from e).elim
def pX (ha:PE X a ta)(he:∀ whole,isTrue a X.env whole=(do let v <-whole;standAt a.pos;holding [v] (truthy v))):
  PT X a (λU H Q=>ta U H λx H'=>∃ k,uK X.K x H' k/\Q k H'):=by
 intro Y s U H Q I h;exact isTrue_plain (ar (ha Y s U H _ I h) λv s1 ⟨x,H1,I1,r1,q1⟩=>xB Y s1 U H1 x v Q I1 r1 q1) (he _)
def kK:bp X (binaryOp .Add) (λx y H Q=>∃ i j,x=.str i/\y=.str j/\i.length+j.length<=bn/\Q (.str (i++j)) H):=by
 intro Y s U H x y v u Q I rx ry h;obtain⟨i,j,rfl,rfl,hz,q⟩:=h;obtain⟨t,rfl⟩:=rx;obtain⟨t',rfl⟩:=ry;exact add_str (λt' tk=>⟨.str (i++j),H,I.tok _,⟨_,rfl⟩,q⟩) hz
def vals1 {x:V}(r:Vals [x] us):∃ u,us=[u]/\RelV x u:=by
 cases r with
 |cons r1 r2=>cases r2;exact⟨_,rfl,r1⟩
def vals2 {x y:V}(r:Vals [x,y] us):∃ u w',us=[u,w']/\RelV x u/\RelV y w':=by
 cases r with
 |cons r1 r2=>
  cases r2 with
  |cons r3 r4=>cases r4;exact⟨_,_,rfl,r1,r3⟩
def nB (hc:X.calm=true):bG X (.builtin "min") (λxs H Q=>∃ i j,xs=[.int i,.int j]/\Q (.int (if j<i then j else i)) H):=by
 intro Y s U H xs us Q I r h;obtain⟨i,j,rfl,q⟩:=h;obtain⟨u,w',rfl,⟨t,rfl⟩,⟨t',rfl⟩⟩:=vals2 r;refine min_two_ints (I.ok.hd hc) λh' tk k=>⟨_,H,I.kept k,?_,q⟩
 by_cases hj:j<i
 .rw[if_pos hj,if_pos hj];exact⟨_,rfl⟩
 .rw[if_neg hj,if_neg hj];exact⟨_,rfl⟩
def nK:bG X (.type "int") (λxs H Q=>(∃ i,xs=[.int i]/\Q (.int i) H)\/∃ k,xs=[.bl k]/\Q (.int (if k then 1 else 0)) H):=by
 intro Y s U H xs us Q I r h;rcases h with⟨i,rfl,q⟩|⟨k,rfl,q⟩
 .obtain⟨u,rfl,t,rfl⟩:=vals1 r;exact call_int_int ⟨.int i,H,I,⟨_,rfl⟩,q⟩
 .obtain⟨u,rfl,r1⟩:=vals1 r;cases r1;exact call_int_bool ⟨.int (if k then 1 else 0),H,I.tok _,⟨_,rfl⟩,q⟩
abbrev yP (K:W.Frag)(x:V)(H:Hp)(n:Nat):Prop:=
 match x with
 | .str y=>y.length<=bn/\n=y.length
 | .byt y=>y.size<=bn/\n=y.size
 | .ref p=>(∃ xs,aA K H p xs/\n=xs.length)\/∃ xs,cV K H p xs/\n=xs.length
 |_=>False
def pf:bG X (.builtin "len") (λxs H Q=>∃ x n,xs=[x]/\yP X.K x H n/\Q (.int n) H):=by
 intro Y s U H xs us Q I r h;obtain⟨x,n,rfl,e,q⟩:=h;obtain⟨u,rfl,rx⟩:=vals1 r;have hl:=de;have hs:bn=16777216:=sizeLine_eq;cases x with
 |str y=>
  obtain⟨t,rfl⟩:=rx;obtain⟨hy,e'⟩:y.length<=bn/\n=y.length:=e;subst e';exact len_str nofun ⟨.int _,H,I.tok _,⟨_,rfl⟩,q⟩
 |byt y=>
  obtain⟨t,rfl⟩:=rx;obtain⟨hy,e'⟩:y.size<=bn/\n=y.size:=e;subst e';exact W.len_bytes nofun ⟨.int _,H,I.tok _,⟨_,rfl⟩,q⟩
 |ref p=>
  cases rx;have e':(∃ xs,aA X.K H p xs/\n=xs.length)\/∃ xs,cV X.K H p xs/\n=xs.length:=e;rcases e' with⟨xs,hx,e'⟩|⟨xs,hx,e'⟩
  .subst e';obtain⟨its,r',pl,hz⟩:=I.list hx;have hlen:=r'.length;exact Calls.call_len_list pl.isList (by simp only[ge];omega) ⟨.int xs.length,H,I.tok _,⟨_,by simp only[ge];rw[hlen]⟩,q⟩
  .subst e';obtain⟨its,r',pl,hz⟩:=I.tuple hx;have hlen:=r'.length;exact len_tuple pl (by simp only[ge];omega) ⟨.int xs.length,H,I.tok _,⟨_,by simp only[ge];rw[hlen]⟩,q⟩
 |_=>exact(show False from e).elim
end
structure lz (h:Heap) (x dx C:Addr) (mA:CF):Prop where
 obj:h.get? x=some (W.instObj C dx)
 ns:h.Ns1 dx mA
 ne:dx≠x
variable {mA:CF}
def ef {dx:Addr}(n:h.Ns1 dx mA):∃ od,h.get? dx=some od/\∀ name,W.lookIn name od=some (mA name):=by
 obtain⟨o,es,ep,ho,hd,hk,_,hm⟩:=n;refine⟨o,ho,λname=>?_⟩;have e:=hm name;unfold nsFind findBy at e;rw[<-Array.find?_toList]at e;unfold W.lookIn;rw[hd];dsimp only
 split
 .rename_i y q;rw[q]at e;exact congrArg some e
 .rename_i q;rw[q]at e;have a:es.toList.any (·.refKey)=false:=by
   rw[any_eq_false];intro y hy;obtain⟨z,t,hkey⟩:=hk y (Array.mem_toList_iff.mp hy);simp[DictEntry.refKey,hkey]
  have a':¬ es.toList.any (·.refKey)=true:=by rw[a];exact Bool.false_ne_true
  rw[if_neg a'];exact congrArg some e
variable {C:Addr}
def lz.look {x dx:Addr}(I:lz h x dx C mA):∃ od,W.InstAt h x (W.instObj C dx) C (some od)/\∀ name,W.lookIn name od=some (mA name):=
 let⟨od,ho,hl⟩:=ef I.ns
 ⟨od,⟨I.obj,rfl,rfl,ho⟩,hl⟩
variable {pl:Sem Bool}{kw:List (Str×Value)}
section
variable {prog:Program}{w:World}{A:Around}{E:CC}{s:Shared}{K:W.Frag}{x dx C f:Addr}{mA:CF}{name:Str}{v:Value}
def get_map {expr:Bool}(X:K.In s.heap)(I:lz s.heap x dx C mA)(hg:W.plainGet K C name=true)(hh:W.hasDictIn K C=true)
  (ha:W.findIn K (.ref C) name=some none) (hv:mA name=some v) (hv':W.handedIn v=true) (h:Q v { s with toks:=s.toks+1 }):
  wpAny (model prog w) A (getAttr (.ref x) name expr) Q E s:=by
 obtain⟨od,J,hl⟩:=I.look;exact W.get_value X J (W.plainGet_of hg).1 (W.findObj_own hh ha rfl (by rw[hl,hv])) hv' h
def rR {Q:Value×List Value->Shared->Prop}(X:K.In s.heap)(I:lz s.heap x dx C mA)(hg:W.plainGet K C name=true)
  (hf:W.findIn K (.ref C) name=some (some (.ref f))) (ht:W.isFn K (.ref f)=true) (hv:mA name=none) (h:Q (.ref f,[.ref x]) s):
  wpAny (model prog w) A (getMethod (.ref x) name pl) Q E s:=by
 obtain⟨od,J,hl⟩:=I.look;exact W.method_fn X J (W.plainGet_of hg).1 (W.plainGet_of hg).2 hf (beq_iff_eq.mp ht) (by show(W.lookIn name od).map (·.isSome)=some false;rw[hl,hv];rfl) h
def sZ {ns:List Str}{Q:CB}(X:K.In s.heap)(I:lz s.heap x dx C mA)
  (hs:W.findIn K (.ref C) "__setattr__"=some (some (.builtin "object.__setattr__"))) (hp:W.plainOver K C=true) (ht:W.takerIn K C name=some none) (hh:W.hasDictIn K C=true)
  (hw:PySem.Within mA ns) (hsz:ns.length<=bn)
  (h:∀ h',lz h' x dx C (λy=>if y=name then some v else mA y)->Heap.SameBut dx s.heap h'->Q () { s with heap:=h',toks:=s.toks+2 }):
  wpAny (model prog w) A (setAttr (.ref x) name v) Q E s:=by
 obtain⟨od,J,hl⟩:=I.look;refine W.set_plain X J hs (W.osa_open (s:={ s with toks:=s.toks+1 }) (r:=none) X J hp ht λb=>?_);obtain⟨cd,hc,hd'⟩:=W.any_some hh;have hx:s.heap.get? x=some ⟨.ref C,some dx,.plain,#[]⟩:=I.obj;refine ad (am (ad (ad (wpAny_loadPart hx (ad (W.Looks.here (s:={ s with toks:=s.toks+1 }) (W.looks_clsIn X hc) ?_))))));rw[hd'];refine am (a:=some dx) (ad (am (ad ?_)));refine wpAny_nsSet1 (s:={ s with toks:=s.toks+1 }) I.ns λh' hn2 hs2=>?_
 obtain⟨oD,esD,epD,hoD,hdD,hcD⟩:=hn2.count (PySem.Within.cons name v hw);refine ad (wpAny_lookBehind hoD (by rw[hdD];exact pastItsLine_dict (Nat.le_trans hcD (by rw[length_cons];omega))) ?_);exact am (h _ ⟨(hs2.2 _ (Ne.symm I.ne)).trans I.obj,hn2,I.ne⟩ hs2)
def rZ {R:Result->Shared->Prop}{vs:List Value}(X:K.In s.heap)(hm:W.makesIn K C=true)
  (hi:W.findIn K (.ref C) "__init__"=some (some (.ref f))) (hf:W.typeIn K (.ref f)=some (.type "function"))
  (h:codeAny (model prog w) (A.under (.builtin "type.__call__" ⟨.ref C::vs,kw⟩)) (.call (.ref f) ⟨.ref (s.heap.objs.size+1)::vs,kw⟩) (W.InitBack (s.heap.objs.size+1) R)
   { s with heap:=(s.heap.push W.emptyDict).push (W.instObj C s.heap.objs.size) }):
  codeAny (model prog w) A (.call (.ref C) ⟨vs,kw⟩) R s:=by
 obtain⟨hh,g,d,t,os⟩:=s;exact W.make_core (W.makes_of X hm) (W.looks_findIn X hi) (λself=>W.bind_fn X self hf) (.inl rfl) h
end
abbrev bB (f:Str)(v:V):List (Str×V)->List (Str×V)
 | []=>[(f,v)]
 |(g,x)::r=>if g=f then(g,v)::r else(g,x)::bB f v r
def ck (f g:Str)(v:V):∀ fs:List (Str×V),(bB f v fs).lookup g=if g=f then some v else fs.lookup g
 | []=>by
  show List.lookup g [(f,v)]=_
  by_cases h:g=f
  .have hb:(g ==f)=true:=beq_iff_eq.mpr h;simp only[List.lookup,hb,if_pos h]
  .have hb:(g ==f)=false:=beq_eq_false_iff_ne.mpr h;simp only[List.lookup,hb,if_neg h]
 |(k,x)::r=>by
  have ih:=ck f g v r;rw[show bB f v ((k,x)::r)=(if k=f then(k,v)::r else(k,x)::bB f v r) from rfl]
  by_cases hk:k=f
  .rw[if_pos hk]
   by_cases h:g=k
   .have hb:(g ==k)=true:=beq_iff_eq.mpr h;simp only[List.lookup,hb,if_pos (h.trans hk)]
   .have hb:(g ==k)=false:=beq_eq_false_iff_ne.mpr h;simp only[List.lookup,hb,if_neg (λe:g=f=>h (e.trans hk.symm))]
  .rw[if_neg hk]
   by_cases h:g=k
   .have hb:(g ==k)=true:=beq_iff_eq.mpr h;simp only[List.lookup,hb,if_neg (λe:g=f=>hk (h.symm.trans e))]
   .have hb:(g ==k)=false:=beq_eq_false_iff_ne.mpr h;simp only[List.lookup,hb];exact ih
def bM (f:Str)(v:V):∀ fs:List (Str×V),f ∈ (bB f v fs).map (·.1)/\∀ g,g ∈ fs.map (·.1)->g ∈ (bB f v fs).map (·.1)
 | []=>⟨by simp[bB],λg h=>by simp at h⟩
 |(k,x)::r=>by
  obtain⟨i1,i2⟩:=bM f v r;rw[show bB f v ((k,x)::r)=(if k=f then(k,v)::r else(k,x)::bB f v r) from rfl]
  by_cases hk:k=f
  .rw[if_pos hk];subst hk;exact⟨by simp,λg h=>by simpa using h⟩
  .rw[if_neg hk];refine⟨?_,λg h=>?_⟩
   .rw[map_cons];exact dl _ i1
   .rw[map_cons]at h⊢;rcases lv.mp h with e|e
    .exact lv.mpr (.inl e)
    .exact dl _ (i2 g e)
def cz (f:Str)(v:V):∀ fs:List (Str×V),(bB f v fs).length<=fs.length+1
 | []=>by simp[bB]
 |(k,x)::r=>by
  have ih:=cz f v r;rw[show bB f v ((k,x)::r)=(if k=f then(k,v)::r else(k,x)::bB f v r) from rfl]
  by_cases hk:k=f
  .rw[if_pos hk,length_cons,length_cons];omega
  .rw[if_neg hk,length_cons,length_cons];omega
def bC.some_of {o:Option Value}(r:bC (some v) o):∃ u,o=some u/\RelV v u:=by
 cases o with
 |none=>exact(show False from r).elim
 |some u=>exact⟨u,rfl,r⟩
def bC.none_of {o:Option Value}(r:bC none o):o=none:=by
 cases o with
 |none=>rfl
 |some u=>exact(show False from r).elim
def gP (r:RelV v u):W.handedIn u=true:=by
 cases v with
 |non=>cases(show u=Value.none from r);rfl
 |bl b=>cases(show u=Value.bool b from r);rfl
 |int i=>obtain⟨t,e⟩:=(show ∃ t,u=Value.int i t from r);cases e;rfl
 |str x=>obtain⟨t,e⟩:=(show ∃ t,u=Value.str x t from r);cases e;rfl
 |byt b=>obtain⟨t,e⟩:=(show ∃ t,u=Value.bytes b t from r);cases e;rfl
 |flt b=>obtain⟨t,e⟩:=(show ∃ t,u=Value.float b t from r);cases e;rfl
 |ref a=>cases(show u=Value.ref a from r);rfl
 |ty n=>cases(show u=Value.type n from r);rfl
section
variable {P:Program}{w:World}{H H':Hp}{h h':Heap}{a C dx:Addr}{fs fs':List (Str×V)}
def cS (hok:c4 P w H h)(e:H a=some (.ins C dx fs)):∃ mA,lz h a dx C mA/\(∀ f,bC (fs.lookup f) (mA f))/\PySem.Within mA (fs.map (·.1))/\fs.length<=1000/\H dx=some (.own a):=by
 obtain⟨d,z,ne,ob,mA,n,r,q⟩:=(show aj P w H h a (.ins C dx fs) from hok a _ e);exact⟨mA,⟨ob,n,ne⟩,r,q,z,d⟩
end
structure ua (K:W.Frag) (C:Addr):Prop where
 pg:W.plainGet K C Str.empty=true
 hd:W.hasDictIn K C=true
 po:W.plainOver K C=true
 sa:W.findIn K (.ref C) "__setattr__"=some (some (.builtin "object.__setattr__"))
def ua.get (c:ua K C)(f:Str):W.plainGet K C f=true:=c.pg
abbrev cB (K:W.Frag)(C:Addr)(f:Str):Prop:=W.findIn K (.ref C) f=some none
def cB.yJ {f:Str}(n:cB K C f):W.takerIn K C f=some none:=by
 unfold W.takerIn;rw[show W.findIn K (.ref C) f=some none from n]
 rfl
structure Meth (K:W.Frag) (C:Addr) (m:Str) (f:Addr):Prop where
 at_:W.findIn K (.ref C) m=some (some (.ref f))
 fn:W.isFn K (.ref f)=true
 kp:W.keepIn K (.ref f)=true
section
variable {X:Cx}{Y:CD}{U:St}{H:Hp}{s:Shared}{a C dx:Addr}{fs:List (Str×V)}{f:Str}{v:V}{A:Around}{E:CC}
def kD {b:Bool}(I:Inv X Y U H s)(e:H a=some (.ins C dx fs))(c:ua X.K C)(n:cB X.K C f)(l:fs.lookup f=some v)
  (h:∀ u s',Inv X Y U H s'->RelV v u->Q u s'):wpAny (model X.prog X.w) A (getAttr (.ref a) f b) Q E s:=by
 obtain⟨mA,O,r,_,_,_⟩:=cS I.hok e;obtain⟨u,hu,ru⟩:=bC.some_of (v:=v) (o:=mA f) (by rw[<-l];exact r f);exact get_map I.aT O (c.get f) c.hd n hu (gP ru) (h u _ (I.tok _) ru)
def kP {m:Str}{g:Addr}{Q:Value×List Value->Shared->Prop}(I:Inv X Y U H s)(e:H a=some (.ins C dx fs))(c:ua X.K C)(k:Meth X.K C m g)(l:fs.lookup m=none)
  (h:Q (.ref g,[.ref a]) s):wpAny (model X.prog X.w) A (getMethod (.ref a) m pl) Q E s:=by
 obtain⟨mA,O,r,_,_,_⟩:=cS I.hok e;have hn:mA m=none:=bC.none_of (by rw[<-l];exact r m);exact rR I.aT O (c.get m) k.at_ k.fn hn h
def ly {y:V}{Q:CB}(I:Inv X Y U H s)(e:H a=some (.ins C dx fs))(c:ua X.K C)(n:cB X.K C f)(hl:fs.length<1000)(ry:RelV y u)
  (h:∀ s',Inv X Y U (upd H a (.ins C dx (bB f y fs))) s'->Q () s'):wpAny (model X.prog X.w) A (setAttr (.ref a) f u) Q E s:=by
 obtain⟨mA,O,r,wi,_,ho⟩:=cS I.hok e;have hz:(fs.map (·.1)).length<=bn:=by rw[ce,sizeLine_eq];omega
 refine sZ I.aT O c.sa c.po n.yJ c.hd wi hz λh' O' sb=>h _ ?_
 have hd:∃ o,h'.get? dx=some o:=let⟨o,_,_,e',_⟩:=O'.ns;⟨o,e'⟩;refine I.write (x:=a) (e:=dx) (by rw[e];exact True.intro) (.inr ho) (λb q hb z=>(sb.2 b hb).trans z) hd ?_;refine⟨by rw[af O.ne];exact ho,?_,O.ne,O'.obj,_,O'.ns,λg=>?_,λg hg=>?_⟩
 .have:=cz f y fs;omega
 .show bC ((bB f y fs).lookup g) (if g=f then some u else mA g);rw[ck]
  by_cases q:g=f
  .rw[if_pos q,if_pos q];exact ry
  .rw[if_neg q,if_neg q];exact r g
 .by_cases q:g=f
  .rw[q];exact(bM f y fs).1
  .refine(bM f y fs).2 g (wi g λz=>hg ?_);show(if g=f then some u else mA g)=none;rw[if_neg q];exact z
def Inv.made (I:Inv X Y U H s):Inv X Y U (upd (upd H s.heap.objs.size (.own (s.heap.objs.size+1))) (s.heap.objs.size+1) (.ins C s.heap.objs.size []))
  { s with heap:=(s.heap.push W.emptyDict).push (W.instObj C s.heap.objs.size) }:=by
 have e1:(s.heap.push W.emptyDict).get? s.heap.objs.size=some W.emptyDict:=sw s.heap rfl;have e2:((s.heap.push W.emptyDict).push (W.instObj C s.heap.objs.size)).get? (s.heap.objs.size+1)=some (W.instObj C s.heap.objs.size):=by
  have:=sw (s.heap.push W.emptyDict) (o:=W.instObj C s.heap.objs.size) rfl
  rwa [Heap.size_push]at this
 have e3:(s.heap.push W.emptyDict).Ns s.heap.objs.size (λ_=>none):=⟨W.emptyDict,#[],_,e1,rfl,(λe he=>absurd he (by simp)),λ_=>rfl⟩;have I1:=I.laid (a:=s.heap.objs.size) (o:=.own (s.heap.objs.size+1)) (h':=s.heap.push W.emptyDict) (t':=s.toks) (λb u q=>sn _ q) (ol _) ⟨_,e1⟩;refine I1.laid (a:=s.heap.objs.size+1) (o:=.ins C s.heap.objs.size []) (t':=s.toks) (λb u q=>sn _ q) (Nat.le_of_eq (Heap.size_push _ _)) ?_;have ne:s.heap.objs.size≠s.heap.objs.size+1:=nw (Nat.lt_succ_self _);refine⟨by rw[af ne,ah],Nat.zero_le _,ne,e2,λ_=>none,(Heap.Ns1.of_empty e3).at λo q=>sn _ q,λ_=>True.intro,λy hy=>absurd rfl hy⟩
def uH {prog:Program}{env:Env}(hb:attributeBase e f env (eval e env)=eval e env)
  (h:wpAny (model prog w) A (eval e env) (λo s₁=>wpAny (model prog w) A (getAttr o f true) Q E s₁) E s):wpAny (model prog w) A (eval (.Attribute e f pos) env) Q E s:=
 Attribute_any_ h (by rw[arm_eval_Attribute,hb])
end
section
variable {X:Cx}{o e value:Expr}{f:Str}{pos pos' tpos:Pos}{ta tv:TE}
end
section
variable {X:Cx}{Y:CD}{U:St}{H:Hp}{s:Shared}{A:Around}{E:CC}{Q:CC}{c:Value}{b:Bool}
inductive dP (K:W.Frag) (H:Hp):V->Value->Prop where
 |non:dP K H .non (.type "NoneType")
 |bl (x:Bool):dP K H (.bl x) (.type "bool")
 |int (i:Int):dP K H (.int i) (.type "int")
 |str (x:Str):dP K H (.str x) (.type "str")
 |flt (x:UInt64):dP K H (.flt x) (.type "float")
 |lst {a:Addr}{xs:List V}(e:H a=some (.lst xs)):dP K H (.ref a) (.type "list")
 |aP {a:Addr}{o:Obj}{xs:List V}(e:H a=some (.aP o (.lst xs))):dP K H (.ref a) (.type "list")
 |tup {a:Addr}{xs:List V}(e:H a=some (.tup xs)):dP K H (.ref a) (.type "tuple")
 |dK {a:Addr}{kvs:List (Key×V)}(e:Rd H a (.dK kvs)):dP K H (.ref a) (.type "dict")
 |dT {a:Addr}{kvs:List (List Key×V)}(e:H a=some (.dT kvs)):dP K H (.ref a) (.type "dict")
 |ins {a C dx:Addr}{fs:List (Str×V)}(e:H a=some (.ins C dx fs)) (cl:ua K C) (ha:W.findIn K (.ref C) "__class__"=some (some (.builtin "object.__class__")))
   (hn:W.specialIn K (.builtin "object.__class__") "__get__"=some (some (.builtin "getset_descriptor.__get__"))) (htk:W.takesIn K (.builtin "object.__class__")=some true)
   (hm:W.mroIn K C (.type "object")=some true):dP K H (.ref a) (.ref C)
def eE {x:V}{t:Value}(I:Inv X Y U H s)(rx:RelV x u)(ty:dP X.K H x t)(e:W.kitOne X.K t c=some b)(h:∀ tk,Q (.bool b) { s with toks:=tk }):
  wpAny (model X.prog X.w) A (call (.builtin "isinstance") [u,c]) Q E s:=by
 cases ty with
 |non=>cases(show u=Value.none from rx);exact W.kia_one W.kitx_none I.aT True.intro e (λz=>nomatch z) h
 |bl y=>cases(show u=Value.bool y from rx);exact W.kia_one W.kitx_bool I.aT True.intro e (λz=>nomatch z) h
 |int i=>obtain⟨t,q⟩:=(show ∃ t,u=Value.int i t from rx);cases q;exact W.kia_one W.kitx_int I.aT True.intro e (λz=>nomatch z) h
 |str y=>obtain⟨t,q⟩:=(show ∃ t,u=Value.str y t from rx);cases q;exact W.kia_one W.kitx_str I.aT True.intro e (λz=>nomatch z) h
 |flt y=>obtain⟨t,q⟩:=(show ∃ t,u=Value.float y t from rx);cases q;exact W.kia_one W.kitx_float I.aT True.intro e (λz=>nomatch z) h
 | @lst a xs ea=>
  cases(show u=Value.ref a from rx);obtain⟨_,_,n,_,h1⟩:=(show aj X.prog X.w H s.heap a (.lst xs) from I.hok a _ ea);exact W.kia_one W.kitx_list I.aT ⟨_,h1,rfl⟩ e (λz=>nomatch z) h
 | @aP a ob xs ea=>
  cases(show u=Value.ref a from rx);obtain⟨_,_,_,n,_,h1⟩:=(show aj X.prog X.w H s.heap a (.aP ob (.lst xs)) from I.hok a _ ea);exact W.kia_one W.kitx_list I.aT ⟨_,h1,rfl⟩ e (λz=>nomatch z) h
 | @tup a xs ea=>
  cases(show u=Value.ref a from rx);obtain⟨_,_,_,p⟩:=(show aj X.prog X.w H s.heap a (.tup xs) from I.hok a _ ea);obtain⟨o,h1,h2,_⟩:=p;exact W.kia_one W.kitx_tuple I.aT ⟨o,h1,h2⟩ e (λz=>nomatch z) h
 | @dK a kvs ea=>
  cases(show u=Value.ref a from rx);obtain⟨_,_,vs,_,p⟩:=(show aj X.prog X.w H s.heap a (.dK kvs) from ea.ok I.hok);obtain⟨o,es,ep,h1,h2,_⟩:=p;exact W.kia_one W.kitx_dict I.aT ⟨o,h1,h2.1⟩ e (λz=>nomatch z) h
 | @dT a kvs ea=>
  cases(show u=Value.ref a from rx);obtain⟨_,_,xs,_,o,es,ep,h1,h2,_⟩:=(show aj X.prog X.w H s.heap a (.dT kvs) from I.hok a _ ea);exact W.kia_one W.kitx_dict I.aT ⟨o,h1,h2.1⟩ e (λz=>nomatch z) h
 | @ins a C dx fs ea cl ha hn htk hm=>
  cases(show u=Value.ref a from rx);obtain⟨mA,O,_⟩:=cS I.hok ea;obtain⟨od,J,_⟩:=O.look;exact W.kia_one (W.kitx_own (cl.get _) cl.hd ha hn htk hm) I.aT J e (λz=>nomatch z) h
end
structure aS (k:Nat) (A:Around):Prop where
 hd:A.handled=none
 dp:A.depth+3*k+5<recursionLimit
 un:A.units+16*k+200<cLine
def aS.mono {j:Nat}(r:aS k A)(h:j<=k):aS j A:=⟨r.hd,by have:=r.dp;omega,by have:=r.un;omega⟩
def aS.deeper (r:aS (k+1) A)(env:Env):aS k (A.deeper env):=
 ⟨r.hd,by have:=r.dp;show A.depth+1+3*k+5<_;omega,by have:=r.un;show A.units+3+16*k+200<_;omega⟩
def ku:(A.under (.builtin "type.__call__" ⟨.ref C::us,kw⟩)).depth=A.depth+1:=by
 first|rfl|simp[Around.under,Code.weight,Code.isCreation,Code.isGuard,Code.isCaller,Code.frames,Code.isFrame,guardIds]
def lE:(A.under (.builtin "type.__call__" ⟨.ref C::us,kw⟩)).units=A.units+1:=by
 first|rfl|simp[Around.under,Code.cUnits,Code.frames,Code.isFrame]
def aS.make (r:aS (k+1) A)(C:Addr)(us:List Value)(kw:List (Str×Value)):aS k (A.under (.builtin "type.__call__" ⟨.ref C::us,kw⟩)):=
 ⟨r.hd,by have:=r.dp;rw[ku];omega,by have:=r.un;rw[lE];omega⟩
def aS.depth (r:aS k A):A.depth<recursionLimit:=by have:=r.dp;omega
abbrev uE:TA:=λ_ H Q=>Q [] H
abbrev vc (ta:TE)(tr:TA):TA:=λU H Q=>ta U H λx H1=>tr U H1 λxs H2=>Q (x::xs) H2
section
variable {X:Cx}{e:Expr}{es:List Expr}{te:TE}{t:TA}{pos:Pos}
def c8:PA X [] uE:=λ_ _ _ _ H Q I h=>Calls.spliced_nil ⟨[],H,I,.nil,h⟩
def tY (ha:PE X e te)(hr:PA X es t)(hs:bm (e::es) X.env=(false,eval e X.env)::bm es X.env:=by rfl):PA X (e::es) (vc te t):=by
 intro pos Y s U H Q I h;rw[hs];show wpAny _ _ (spliced ((false,eval e X.env)::backTo pos (bm es X.env))) _ _ s;refine Calls.spliced_cons (ar (ha Y s U H _ I h) λu s1 ⟨x,H1,I1,r1,q1⟩=>?_);exact ar (hr pos Y s1 U H1 _ I1 q1) λus s2 ⟨xs,H2,I2,r2,q2⟩=>⟨x::xs,H2,I2,.cons r1 r2,q2⟩
abbrev Bz (t:TA):TE:=λU H Q=>t U H λxs H1=>xs.length<=bn/\∀ p,H1 p=none->Q (.ref p) (upd H1 p (.tup xs))
abbrev A9 (t:TA):TE:=λU H Q=>t U H λxs H1=>xs.length<=bn/\∀ p,H1 p=none->Q (.ref p) (upd H1 p (.lst xs))
def qK {x1} (h:PA X es t):PE X (.Tuple es x1 pos) (Bz t):=by
 intro Y s U H Q I hq;refine wpAny_Tuple_spliced (ar (h pos Y s U H _ I hq) λus s1 ⟨xs,H1,I1,r,z,q⟩=>⟨by rw[<-r.length];exact z,?_⟩);have hf:H1 s1.heap.objs.size=none:=I1.hok.fresh (ol _);refine⟨.ref s1.heap.objs.size,upd H1 s1.heap.objs.size (.tup xs),I1.laid (t':=s1.toks) (λb u e=>sn _ e) (ol _) ?_,rfl,q _ hf⟩;exact⟨z,us,r,⟨_,sw _ rfl,rfl,_,rfl⟩⟩
def vO (h:PA X es t):PE X (.List es pos) (A9 t):=by
 intro Y s U H Q I hq;refine wpAny_List_spliced (ar (h pos Y s U H _ I hq) λus s1 ⟨xs,H1,I1,r,z,q⟩=>⟨by rw[<-r.length];exact z,?_⟩);have hf:H1 s1.heap.objs.size=none:=I1.hok.fresh (ol _);refine⟨.ref s1.heap.objs.size,upd H1 s1.heap.objs.size (.lst xs),I1.laid (t':=s1.toks) (λb u e=>sn _ e) (ol _) ?_,rfl,q _ hf⟩;exact⟨z,us,0,r,sw _ rfl⟩
end
@[reducible]def Sp:=List V->Hp->VK->XK->Prop
@[reducible]def mN:=List Env->Hp->Shared->XK->Value->Shared->Prop
structure lB (P:Program) (w:World) (K:W.Frag) (mg:CF) (base:Heap) (A:Around) (outer:List Env) (s:Shared) (H:Hp):Prop where
 frames:A.frames=some outer
 mod:Mod K mg base
 bs:∀ b o,base.get? b=some o->s.heap.get? b=some o/\H b=none
 bsz:base.objs.size<=s.heap.objs.size
 gk:s.heap.FunFrames base outer
 frf:∀ b ∈ iY outer,H b=none
 hok:c4 P w H s.heap
 bare:AllBare s.gens
abbrev CE (outer:List Env)(P:Program)(w:World)(H:Hp)(s:Shared)(Q:VK)(u:Value)(s':Shared):Prop:=
 ∃ v H',s'.os=s.os/\AllBare s'.gens/\Un (iY outer) [] H H' s.heap s'.heap/\c4 P w H' s'.heap/\RelV v u/\Q v H'
abbrev CR (CX:mN)(outer:List Env)(P:Program)(w:World)(H:Hp)(s:Shared)(Q:VK)(E:XK)(r:Result)(s':Shared):Prop:=
 match r with
 | .ok (.ret u)=>CE outer P w H s Q u s'
 | .ok _=>False
 | .error e=>CX outer H s E e s'
structure bI (P:Program) (w:World) (K:W.Frag) (mg:CF) (base:Heap) (CX:mN) (k:Nat) (f:Addr) (fd:FuncData) (ps:List Str) (sp:Sp):Prop where
 len:∀ vs H Q E,sp vs H Q E->vs.length=ps.length
 run:∀ (A:Around) (outer:List Env) (s:Shared) (H:Hp) (args:Args) (us:List Value) (vs:List V) (Q:VK) (E:XK),aS k A->lB P w K mg base A outer s H->BindsTo s fd args (ps.zip us)->Vals vs us->sp vs H Q E->
  codeAny (model P w) A (.call (.ref f) args) (CR CX outer P w H s Q E) s
variable {mg:CF}{base:Heap}{CX:mN}{fd:FuncData}{ps:List Str}
def bI.imp {f:Addr}{sp sp':Sp}(F:bI P w K mg base CX k f fd ps sp)
  (h:∀ vs H Q E,sp' vs H Q E->sp vs H Q E):bI P w K mg base CX k f fd ps sp':=
 ⟨λvs H Q E q=>F.len vs H Q E (h _ _ _ _ q),λA outer s H args us vs Q E hr he hb hv hs=>F.run A outer s H args us vs Q E hr he hb hv (h _ _ _ _ hs)⟩
variable {outer:List Env}
def lB.make (e:lB P w K mg base A outer s H)(C:Addr)(us:List Value)(kw:List (Str×Value)):
  lB P w K mg base (A.under (.builtin "type.__call__" ⟨.ref C::us,kw⟩)) outer s H:=⟨by first|exact e.frames|(simpa[Around.under,Code.envs,Code.isFrame,pushEnvs] using e.frames),e.mod,e.bs,e.bsz,e.gk,e.frf,e.hok,e.bare⟩
section
variable {X:Cx}{Y:CD}{U:St}{H:Hp}{s s':Shared}
def Inv.ei (I:Inv X Y U H s):lB X.prog X.w X.K X.mg X.base X.A X.stack s H:=
 ⟨I.ok.frames,I.ok.mod,I.bs,Nat.le_trans I.ok.bsz I.sz,I.stack,I.iu,I.hok,I.bare⟩
def Inv.after {Q:VK}(I:Inv X Y U H s)(h:CE X.stack X.prog X.w H s Q u s'):EP X Y U Q u s':=by
 obtain⟨v,H',os,bare,un,hok,r,q⟩:=h;obtain⟨hh,g,d,t,os'⟩:=s';obtain rfl:os'=s.os:=os;exact⟨v,H',I.call (h':=hh) (g':=g) (d':=d) (t':=t) (ch:=[]) un hok bare (λb z=>absurd z (by simp)),r,q⟩
end
abbrev vm (sp:Sp)(dvs:List V)(E:St->XK)(t:TA):TE:=λU H Q=>t U H λvs H1=>sp (vs++dvs) H1 Q (E U)
abbrev vE (C:Addr)(sp:Sp)(dvs:List V)(E:St->XK)(t:TA):TE:=λU H Q=>t U H λvs H1=>∀ x dx,H1 x=none->H1 dx=none->dx≠x->
 sp (.ref x::(vs++dvs)) (upd (upd H1 dx (.own x)) x (.ins C dx [])) (λv H2=>v=.non/\Q (.ref x) H2) (E U)
abbrev Binds (K:W.Frag)(fd:FuncData)(ps:List Str)(ds:List Value):Prop:=
 ∀ (s:Shared) (us:List Value),K.In s.heap->(us++ds).length=ps.length->BindsTo s fd ⟨us,[]⟩ (ps.zip (us++ds))
def Binds.all (h:∀ us:List Value,us.length=ps.length->bindArgs fd ⟨us,[]⟩=pure (ps.zip us)):Binds K fd ps []:=λs us _ hl=>by
 rw[append_nil]at hl⊢;exact .of_eq (h us hl)
abbrev Passes (CX:mN)(X:Cx)(E:St->XK):Prop:=∀ (Y:CD) (U:St) (H:Hp) (s:Shared) (e:Value) (s':Shared),Inv X Y U H s->CX X.stack H s (E U) e s'->X.xe e s'
variable {vs:List V}
section
variable {X:Cx}{CX:mN}{k:Nat}{f C:Addr}{fd:FuncData}{ps:List Str}{sp:Sp}{dvs:List V}{ds:List Value}{E:St->XK}{x m:Str}{p pos apos:Pos}{e o:Expr}{es:List Expr}{ta:TE}{t:TA}
def iJ {Q:VK}(F:bI X.prog X.w X.K X.mg X.base CX k f fd ps sp)(hr:aS k X.A)(hb:Binds X.K fd ps ds)(hd:Vals dvs ds)(hx:Passes CX X E)
  (I:Inv X Y U H s) (r:Vals vs us) (h:sp (vs++dvs) H Q (E U)):wpAny (model X.prog X.w) X.A (call (.ref f) us) (EP X Y U Q) X.xe s:=by
 have r2:Vals (vs++dvs) (us++ds):=r.append hd;have hl:(us++ds).length=ps.length:=by rw[<-r2.length];exact F.len _ _ _ _ h
 refine wpAny_call (codeAny_mono (F.run X.A X.stack s H ⟨us,[]⟩ (us++ds) (vs++dvs) Q (E U) hr I.ei (hb s us I.aT hl) r2 h) λr s' hq=>?_);cases r with
 |error e=>exact hx Y U H s e s' I hq
 |ok fl=>
  cases fl with
  |ret u=>exact I.after hq
  |next=>exact False.elim hq
  |brk=>exact False.elim hq
  |cont=>exact False.elim hq
def tI (F:bI X.prog X.w X.K X.mg X.base CX k f fd ps sp)(hr:aS k X.A)(hg:Gl X x)(hm:X.mg x=some (.ref f))(hk:W.keepIn X.K (.ref f)=true)(hb:Binds X.K fd ps ds)(hd:Vals dvs ds)(hx:Passes CX X E)
  (ha:PA X (e::es) t) (hdb:(x ==("__debug__":Str))=false:=by decide) (he:bm (e::es) X.env=(false,eval e X.env)::bm es X.env:=by rfl) (hpl:(backTo pos (bm es X.env)).any (·.1)=false:=by rfl):
  PE X (.Call (.Name x p) (e::es) [] pos) (vm sp dvs E t):=by
 intro Y s U H Q I h;refine bv (aN I hg hm ?_ hdb);refine W.callWith_K (h₀:=X.base) I.ok.mod.kin hk (ar (ha pos Y s U H _ I h) λus s1 ⟨vs,H1,I1,r,q⟩=>⟨I1.aT,?_⟩) he hpl;exact iJ F hr hb hd hx I1 r q
def rE (F:bI X.prog X.w X.K X.mg X.base CX k f fd ps sp)(hr:aS k X.A)(hg:Gl X x)(hm:X.mg x=some (.ref f))(hk:W.keepIn X.K (.ref f)=true)(hb:Binds X.K fd ps ds)(hd:Vals dvs ds)(hx:Passes CX X E)
  (hdb:(x ==("__debug__":Str))=false:=by decide):PE X (.Call (.Name x p) [] [] pos) (vm sp dvs E uE):=by
 intro Y s U H Q I h;refine bv (aN I hg hm ?_ hdb);exact W.callWith_K0 I.aT hk (iJ (us:=[]) F hr hb hd hx I .nil h)
structure Mk (K:W.Frag) (C f:Addr):Prop where
 makes:W.makesIn K C=true
 init:W.findIn K (.ref C) "__init__"=some (some (.ref f))
 fn:W.isFn K (.ref f)=true
 kp:W.keepIn K (.ref C)=true
def jG {Q:VK}(M:Mk X.K C f)(F:bI X.prog X.w X.K X.mg X.base CX k f fd ps sp)(hr:aS (k+1) X.A)(hb:Binds X.K fd ps ds)(hd:Vals dvs ds)
  (hx:Passes CX X E) (I:Inv X Y U H s) (r:Vals vs us)
  (h:∀ x dx,H x=none->H dx=none->dx≠x->sp (.ref x::(vs++dvs)) (upd (upd H dx (.own x)) x (.ins C dx [])) (λv H2=>v=.non/\Q (.ref x) H2) (E U)):
  wpAny (model X.prog X.w) X.A (call (.ref C) us) (EP X Y U Q) X.xe s:=by
 have hq:=h (s.heap.objs.size+1) s.heap.objs.size (I.hok.fresh (Nat.le_succ _)) (I.hok.fresh (ol _)) (nw (Nat.lt_succ_self _));have I2:=Inv.made (C:=C) I;have r2:Vals (V.ref (s.heap.objs.size+1)::(vs++dvs)) (Value.ref (s.heap.objs.size+1)::(us++ds)):=.cons rfl (r.append hd);have hl:(Value.ref (s.heap.objs.size+1)::us++ds).length=ps.length:=by
  have e:=r2.length;rw[F.len _ _ _ _ hq]at e;exact e.symm
 refine wpAny_call (rZ (f:=f) I.aT M.makes M.init (beq_iff_eq.mp M.fn) (codeAny_mono (F.run _ X.stack _ _ ⟨Value.ref (s.heap.objs.size+1)::us,[]⟩ (Value.ref (s.heap.objs.size+1)::(us++ds)) _ _ (E U) (hr.make C us [])
  (I2.ei.make C us []) (hb _ (Value.ref (s.heap.objs.size+1)::us) I2.aT hl) r2 hq) λr s' hq'=>?_))
 cases r with
 |error e=>exact hx Y U _ _ e s' I2 hq'
 |ok fl=>
  cases fl with
  |ret u=>
   obtain⟨v,H',I3,rv,ev,q3⟩:=I2.after hq';subst ev;exact⟨rv,⟨V.ref (s.heap.objs.size+1),H',I3,rfl,q3⟩⟩
  |next=>exact False.elim hq'
  |brk=>exact False.elim hq'
  |cont=>exact False.elim hq'
def sx (M:Mk X.K C f)(F:bI X.prog X.w X.K X.mg X.base CX k f fd ps sp)(hr:aS (k+1) X.A)(hg:Gl X x)(hm:X.mg x=some (.ref C))(hb:Binds X.K fd ps ds)(hd:Vals dvs ds)(hx:Passes CX X E)
  (ha:PA X (e::es) t) (hdb:(x ==("__debug__":Str))=false:=by decide) (he:bm (e::es) X.env=(false,eval e X.env)::bm es X.env:=by rfl) (hpl:(backTo pos (bm es X.env)).any (·.1)=false:=by rfl):
  PE X (.Call (.Name x p) (e::es) [] pos) (vE C sp dvs E t):=by
 intro Y s U H Q I h;refine bv (aN I hg hm ?_ hdb);refine W.callWith_K (h₀:=X.base) I.ok.mod.kin M.kp (ar (ha pos Y s U H _ I h) λus s1 ⟨vs,H1,I1,r,q⟩=>⟨I1.aT,?_⟩) he hpl;exact jG M F hr hb hd hx I1 r q
def qZ (M:Mk X.K C f)(F:bI X.prog X.w X.K X.mg X.base CX k f fd ps sp)(hr:aS (k+1) X.A)(hg:Gl X x)(hm:X.mg x=some (.ref C))(hb:Binds X.K fd ps ds)(hd:Vals dvs ds)(hx:Passes CX X E)
  (hdb:(x ==("__debug__":Str))=false:=by decide):PE X (.Call (.Name x p) [] [] pos) (vE C sp dvs E uE):=by
 intro Y s U H Q I h;refine bv (aN I hg hm ?_ hdb);exact W.callWith_K0 I.aT M.kp (jG (us:=[]) M F hr hb hd hx I .nil h)
end
section
variable {X:Cx}{CX:mN}{k:Nat}{f C:Addr}{fd:FuncData}{ps ks:List Str}{sp:Sp}{E:St->XK}{x m:Str}{p pos apos kpos:Pos}{e o:Expr}{es:List Expr}{kws:List Keyword}{te ta:TE}{t tk:TA}{nm:Option Str}
variable {g:List Value->List Value->List Value}{gV:List V->List V->List V}
end
structure fB (N P:List Str) (sc:Scope):Prop where
 kind:sc.kind=.function
 co:sc.isCoroutine=false
 gen:sc.isGenerator=false
 nd:N.Nodup
 pre:N.take P.length=P
 par:∀ x ∈ P,sc.names.lookup x=some .local\/sc.names.lookup x=some .cell
 nofree:∀ y ∈ sc.names,y.2≠.free
def gM {kindOf:Str->Option NameKind}{x:Str}:∀ {binds:List (Str×Value)}{m:CF},(∀ v,(x,v) ∉ binds)->bindL kindOf binds m x=m x
 | [],_,_=>rfl
 |(n,v)::r,m,h=>by
  unfold bindL;rw[gM λw hw=>h w (dl _ hw)]
  split
  .have:x≠n:=by rintro rfl;exact h v li
   simp[this]
  .rfl
def g5 {kindOf:Str->Option NameKind}{x:Str}:∀ {binds:List (Str×Value)}{m:CF},(∀ v,(x,v) ∉ binds)->bindC kindOf binds m x=m x
 | [],_,_=>rfl
 |(n,v)::r,m,h=>by
  unfold bindC;rw[g5 λw hw=>h w (dl _ hw)]
  split
  .rfl
  .have:x≠n:=by rintro rfl;exact h v li
   simp[this]
def gS {kindOf:Str->Option NameKind}{x:Str}{v:Value}:∀ {P:List Str}{vs:List Value}{i:Nat}{m:CF},P.Nodup->P[i]? =some x->vs[i]? =some v->kindOf x=some .local->
  bindL kindOf (P.zip vs) m x=some v
 | [],_,_,_,_,h,_,_=>by simp at h
 |_::_,[],_,_,_,_,h,_=>by simp at h
 |p::P,w::vs,0,m,nd,h1,h2,hk=>by
  simp at h1 h2;subst h1;subst h2;show bindL kindOf ((p,w)::P.zip vs) m p=_;unfold bindL;rw[gM λv hv=>(nodup_cons.mp nd).1 (of_mem_zip hv).1,if_pos hk];simp
 |p::P,w::vs,i+1,m,nd,h1,h2,hk=>by
  show bindL kindOf ((p,w)::P.zip vs) m x=_;unfold bindL;exact gS (i:=i) (nodup_cons.mp nd).2 (by simpa using h1) (by simpa using h2) hk
def g9 {kindOf:Str->Option NameKind}{x:Str}{v:Value}:∀ {P:List Str}{vs:List Value}{i:Nat}{m:CF},P.Nodup->P[i]? =some x->vs[i]? =some v->kindOf x≠some .local->
  bindC kindOf (P.zip vs) m x=some v
 | [],_,_,_,_,h,_,_=>by simp at h
 |_::_,[],_,_,_,_,h,_=>by simp at h
 |p::P,w::vs,0,m,nd,h1,h2,hk=>by
  simp at h1 h2;subst h1;subst h2;show bindC kindOf ((p,w)::P.zip vs) m p=_;unfold bindC;rw[g5 λv hv=>(nodup_cons.mp nd).1 (of_mem_zip hv).1,if_neg hk];simp
 |p::P,w::vs,i+1,m,nd,h1,h2,hk=>by
  show bindC kindOf ((p,w)::P.zip vs) m x=_;unfold bindC;exact g9 (i:=i) (nodup_cons.mp nd).2 (by simpa using h1) (by simpa using h2) hk
abbrev start (N:List Str)(vs:List V):St:=vs.map some++pi (N.length-vs.length) none
abbrev nH (CX:mN)(P:Program)(w:World)(K:W.Frag)(mg:CF)(base:Heap)(N:List Str)(qual:Str)(scope:Scope)(f:Addr)(cd:Value)(A:Around)(outer:List Env)(s:Shared)(H:Hp)(E:XK):Cx where
 prog:=P
 w:=w
 K:=K
 mg:=mg
 base:=base
 A:=A.deeper (envOfC qual scope s.heap.objs.size f cd)
 N:=N
 s₀:=s
 H₀:=H
 env:=envOfC qual scope s.heap.objs.size f cd
 outer:=outer
 stack:=envOfC qual scope s.heap.objs.size f cd::outer
 ex:=[]
 calm:=true
 fn:=λ_=>true
 pn:=[]
 xe:=λe s'=>wpAny (model P w) (A.deeper (envOfC qual scope s.heap.objs.size f cd)) (leaving (envOfC qual scope s.heap.objs.size f cd) e) (λ_ s''=>CX outer H s E e s'') (λe' s''=>CX outer H s E e' s'') s'
def jY {sc:Scope}{n:Nat}(h:sc.names.lookup x=some .cell):∃ c,(cellsFrom n sc.names []).lookup x=some c:=by
 have q:=W.cellsFrom_some sc.names n [] (.inl h);exact Option.isSome_iff_exists.mp q
variable {scope:Scope}
def nz {N:List Str}{qual:Str}{f:Addr}{cd:Value}{s1:Shared}{E:XK}
  (S:fB N ps scope) (hd:A.handled=none) (e0:lB P w K mg base A outer s H) (hl:vs.length=ps.length) (r:Vals vs us)
  (x:InCallC s s.heap.objs.size (bindL (envOfC qual scope s.heap.objs.size f cd).kindOf (ps.zip us) λ_=>none) (cellsFrom (s.heap.objs.size+1) scope.names []) (bindC (envOfC qual scope s.heap.objs.size f cd).kindOf (ps.zip us) λ_=>none) s1):
  Inv (nH CX P w K mg base N qual scope f cd A outer s H E) [] (start N vs) H s1:=by
 have hpl:ps.length<=N.length:=by have:=congrArg List.length S.pre;rw[db]at this;omega
 obtain⟨h1,tk,rfl,hk⟩:=x.done;have noA:∀ b:Addr,b ∉ (nH CX P w K mg base N qual scope f cd A outer s H E).ex:=λb z=>absurd (show b ∈ ([]:List Addr) from z) (by simp)
 refine⟨⟨e0.mod,S.kind,rfl,rfl,ol _,λy z c h1 h2=>?_,λy hy=>?_,λy c _ h=>?_,λ_=>hd,Around.frames_deeper e0.frames,.inr ⟨rfl,rfl⟩,λb z=>absurd z (noA b),e0.bs,e0.bsz,λb _ _=>noA b,λb z=>absurd z (noA b),e0.gk,e0.frf⟩,
  rfl,e0.bare,Un.kept hk,⟨_,x.toInCall.ns,λi y v h1 h2 h3=>?_⟩,λy c h=>⟨_,x.cell y c h⟩,e0.hok.fresh (ol _),λy c h=>?_,λp hp=>absurd (show p ∈ ([]:CD) from hp) (by simp),e0.hok.kept hk,?_⟩
 .exact name_of_addr x.apart (PySem.mem_of_lookup h1) (PySem.mem_of_lookup h2)
 .have hy:scope.names.lookup y=some .cell\/scope.names.lookup y=some .free:=hy;rcases hy with hy|hy
  .exact jY hy
  .exact absurd rfl (S.nofree _ (PySem.mem_of_lookup hy))
 .exact Nat.le_of_lt (x.above y c (PySem.mem_of_lookup h))
 .have hi:i<vs.length:=by
   unfold start at h2
   by_cases hi:i<vs.length
   .exact hi
   .rw[getElem?_append_right (by simpa using hi)]at h2;rw[List.getElem?_replicate]at h2
    split at h2<;>cases h2
  have ha:vs[i]? =some v:=by
   unfold start at h2;rw[getElem?_append_left (by simpa using hi),io]at h2;cases e:vs[i]? with
   |none=>rw[e]at h2;cases h2
   |some a=>rw[e]at h2;cases h2;rfl
  obtain⟨u,hu,rv⟩:=r.get ha;have hp:ps[i]? =some y:=by
   rw[<-S.pre,List.getElem?_take_of_lt nofun];exact h1
  have ndP:ps.Nodup:=by rw[<-S.pre];exact S.nd.sublist (take_sublist _ _)
  refine⟨u,rv,?_⟩;rcases S.par y (cr hp) with k|k
  .exact .inl ⟨k,gS ndP hp hu k⟩
  .obtain⟨c,e⟩:=jY (n:=s.heap.objs.size+1) k;refine .inr ⟨.inl k,c,e,?_⟩;have q:=x.cell y c e;rw[g9 ndP hp hu (by show scope.names.lookup y≠_;rw[k];decide)]at q;exact q
 .exact e0.hok.fresh (Nat.le_of_lt (x.above y c (PySem.mem_of_lookup h)))
 .unfold start;show _=N.length;rw[ci,ce,List.length_replicate]
  omega
def yG {f:Addr}{name qual:Str}{params:Arguments}{dV kV doc pm cdv ct oc:Value}{an od:Option Addr}
  {osl:Array (Option Value)}{N:List Str}{sp:Sp}(lk:K.lookup f=some ⟨oc,od,.func (W.fnOf name qual params body scope dV kV doc pm an cdv ct),osl⟩) (hcd:W.codeIn K cdv qual=true) (S:fB N ps scope)
  (len:∀ vs H Q E,sp vs H Q E->vs.length=ps.length)
  (hbody:∀ (A:Around) (outer:List Env) (s:Shared) (H:Hp) (vs:List V) (Q:VK) (E:XK),aS k (A.deeper (envOfC qual scope s.heap.objs.size f cdv))->sp vs H Q E->
   ∃ t,vC (nH CX P w K mg base N qual scope f cdv A outer s H E) body t/\t { nx:=λ_ H'=>Q .non H',rt:=Q } (start N vs) H):
  bI P w K mg base CX (k+1) f (W.fnOf name qual params body scope dV kV doc pm an cdv ct) ps sp:=by
 refine⟨len,λA outer s H args us vs Q E hr e0 hb r hsp=>?_⟩;have hl:=len _ _ _ _ hsp;have KX:K.In s.heap:=e0.mod.kin.keeps λb o e=>(e0.bs b o e).1
 have lim:s.heap.NoLimit:=e0.mod.nolimit.keeps λb o e=>(e0.bs b o e).1
 have hkind:∀ y ∈ ps.zip us,scope.names.lookup y.1=some .local\/(scope.names.lookup y.1=some .cell/\((cellsFrom (s.heap.objs.size+1) scope.names []).lookup y.1).isSome=true):=λ⟨n,v⟩ hy=>by
  rcases S.par n (of_mem_zip hy).1 with q|q
  .exact .inl q
  .exact .inr ⟨q,W.cellsFrom_some _ _ _ (.inl q)⟩
 refine codeAny_call_function hr.depth (KX _ _ lk) rfl S.co S.gen rfl (W.codeRec_of KX hcd) (hb _ _ _ _ ?_);refine wpAny_newFunctionEnv_cells S.kind hkind λenv he s1 x=>?_
 subst he;refine⟨lim.keeps x.toInCall.keep,codeAny_func ?_⟩;obtain⟨t,ht,hq⟩:=hbody A outer s H vs Q E (hr.deeper _) hsp;have I:Inv (nH CX P w K mg base N qual scope f cdv A outer s H E) [] (start N vs) H s1:=nz S hr.hd e0 hl r x;refine wpAny_mono (ht [] s1 (start N vs) H _ I hq) (λfl s' hs=>?_) λe s' hs=>hs
 have fin:∀ {σ':St}{H':Hp}{v:V}{u:Value},Inv (nH CX P w K mg base N qual scope f cdv A outer s H E) [] σ' H' s'->RelV v u->Q v H'->CE outer P w H s Q u s':=
  λ{σ' H' v u} J rv q=>⟨v,H',J.os,J.bare,J.base,J.hok,rv,q⟩
 cases fl with
 |ret u=>
  obtain⟨v,σ',H',J,rv,q⟩:=hs;exact fin J rv q
 |next=>
  obtain⟨σ',H',J,q⟩:=hs;exact fin (v:=V.non) (u:=Value.none) J rfl q
 |brk=>
  obtain⟨_,_,_,q⟩:=hs;exact False.elim q
 |cont=>
  obtain⟨_,_,_,q⟩:=hs;exact False.elim q
section
variable {X:Cx}{x:Str}{p pos:Pos}{e:Expr}{es:List Expr}{t:TA}{id T:String}{r:List V->Hp->VK->Prop}
abbrev BN (r:List V->Hp->VK->Prop)(t:TA):TE:=λU H Q=>t U H λvs H1=>r vs H1 Q
def gc (hc:bG X (.builtin id) r)(hg:Gl X x)(hm:X.mg x=none)(hv:bootBuiltins x=some (.builtin id))(ha:PA X (e::es) t)(hn:x≠"__name__":=by decide) (hdb:(x ==("__debug__":Str))=false:=by decide)
  (he:bm (e::es) X.env=(false,eval e X.env)::bm es X.env:=by rfl) (hpl:(backTo pos (bm es X.env)).any (·.1)=false:=by rfl):PE X (.Call (.Name x p) (e::es) [] pos) (BN r t):=by
 intro Y s U H Q I h;refine bv (i8 I hg hm hv ?_ hn hdb);exact PyProof.Rows.callWith_builtin1 (ar (ha pos Y s U H _ I h) λus s1 ⟨vs,H1,I1,r1,q1⟩=>hc Y s1 U H1 vs us Q I1 r1 q1) he hpl
def og (hc:bG X (.type T) r)(hg:Gl X x)(hm:X.mg x=none)(hv:bootBuiltins x=some (.type T))(ha:PA X (e::es) t)(hn:x≠"__name__":=by decide) (hdb:(x ==("__debug__":Str))=false:=by decide)
  (he:bm (e::es) X.env=(false,eval e X.env)::bm es X.env:=by rfl) (hpl:(backTo pos (bm es X.env)).any (·.1)=false:=by rfl):PE X (.Call (.Name x p) (e::es) [] pos) (BN r t):=by
 intro Y s U H Q I h;refine bv (i8 I hg hm hv ?_ hn hdb);exact PyProof.Rows.callWith_type1 (ar (ha pos Y s U H _ I h) λus s1 ⟨vs,H1,I1,r1,q1⟩=>hc Y s1 U H1 vs us Q I1 r1 q1) he hpl
end
end L2
namespace HT
open PySem PyProof.Rows
section
open PySem.SeqAt
open PySem.AutoSeq1 (wpAny_loadPart')
open PySem.MeetsSeq PySem.MeetsSeq2 PySem.MeetsSeq3
end
section
variable {prog:Program}{w:World}{A:Around}{E:CC}{s:Shared}
abbrev jM (n d:Nat):Option Int->Nat
 |none=>d
 |some v=>if v<0 then(v+(n:Int)).toNat else min v.toNat n
end
end HT
namespace L2
open PySem PySem.Spec PyProof.Rows
@[reducible]def TO:=St->Hp->(Option Int->Hp->Prop)->Prop
abbrev PO (X:Cx)(e:Option Expr)(t:TO):Prop:=
 ∀ (Y:CD) (s:Shared) (U:St) (H:Hp) (Q:Option Int->Hp->Prop),Inv X Y U H s->t U H Q->
  wpAny (model X.prog X.w) X.A (evalPart e X.env) (λu s'=>∃ o H',Inv X Y U H' s'/\IsPart u o/\Q o H') X.xe s
abbrev uL:TO:=λ_ H Q=>Q none H
abbrev yL (t:TE):TO:=λU H Q=>t U H λx H1=>∃ i,x=.int i/\Q (some i) H1
section
variable {X:Cx}{e:Expr}{te:TE}{lo hi:Option Expr}{tl th:TO}{pos p2:Pos}
def ui:PO X none uL:=by
 intro Y s U H Q I h;rw[evalPart_none];exact am ⟨none,H,I,.none,h⟩
def uz (h:PE X e te):PO X (some e) (yL te):=by
 intro Y s U H Q I hw;rw[evalPart_some];refine ar (h Y s U H _ I hw) λu s1 ⟨x,H1,I1,r1,q1⟩=>?_
 obtain⟨i,rfl,q⟩:=q1;obtain⟨t,rfl⟩:=r1;exact⟨some i,H1,I1,.int i t,q⟩
abbrev Ar (X:Cx)(r:V->Option Int->Option Int->Hp->VK->Prop):Prop:=
 ∀ (Y:CD) (s:Shared) (U:St) (H:Hp) (x:V) (v vl vu:Value) (lo hi:Option Int) (sl:Addr) (Q:VK),Inv X Y U H s->RelV x v->s.heap.IsSliceOf sl vl vu .none->IsPart vl lo->IsPart vu hi->r x lo hi H Q->
  ∃ T id,typeLookup (.type T) "__getitem__"=pure (some (.builtin id))/\s.TypeIs v T/\wpAny (model X.prog X.w) X.A (getItem v (.ref sl)) (EP X Y U Q) X.xe s
abbrev Cf (r:V->Option Int->Option Int->Hp->VK->Prop)(te:TE)(tl th:TO):TE:=λU H Q=>te U H λx H1=>tl U H1 λl H2=>th U H2 λu H3=>r x l u H3 Q
def qA {r:V->Option Int->Option Int->Hp->VK->Prop}(hr:Ar X r)(he:PE X e te)(hl:PO X lo tl)(hu:PO X hi th):PE X (.Subscript e (.Slice lo hi none p2) pos) (Cf r te tl th):=by
 intro Y s U H Q I h;refine Subscript_ (ar (he Y s U H _ I h) λv s1 ⟨x,H1,I1,r1,q1⟩=>?_);refine wpAny_Slice (ar (hl Y s1 U H1 _ I1 q1) λvl s2 ⟨l,H2,I2,pl,q2⟩=>ar (hu Y s2 U H2 _ I2 q2) λvu s3 ⟨u,H3,I3,pu,q3⟩=>?_);rw[evalPart_none];refine am ?_;have I4:Inv X Y U H3 { s3 with heap:=s3.heap.push { cls:=.type "slice",data:=.fields #[vl,vu,.none] } }:=I3.kept (t':=s3.toks) λb ob q=>sn _ q
 obtain⟨T,id,hT,ht,hg⟩:=hr Y { s3 with heap:=s3.heap.push { cls:=.type "slice",data:=.fields #[vl,vu,.none] } } U H3 x v vl vu l u s3.heap.objs.size Q I4 r1 (Heap.IsSliceOf.new ..) pl pu q3;show wpAny (model X.prog X.w) X.A (subscriptTail e (.Slice lo hi none p2) v (.ref s3.heap.objs.size)) (EP X Y U Q) X.xe { s3 with heap:=s3.heap.push { cls:=.type "slice",data:=.fields #[vl,vu,.none] } };exact tail_any (ops:=[.ref s3.heap.objs.size,v]) ht hT hg (by with_unfolding_all rfl)
abbrev jR (xs:List V)(lo hi:Option Int):List V:=(xs.drop (HT.jM xs.length 0 lo)).take (HT.jM xs.length xs.length hi-HT.jM xs.length 0 lo)
def ju (xs:List V)(lo hi:Option Int):(jR xs lo hi).length<=xs.length:=by
 unfold jR;rw[db,jp]
 omega
end
abbrev tV (n:Nat)(i:Int):Option Nat:=if 0<=i then(if i<n then some i.toNat else none) else if -(n:Int)<=i then some (i+n).toNat else none
variable {α:Type}
abbrev eP (xs:List α)(i:Int):Option α:=(tV xs.length i).bind λj=>xs[j]?
variable {n:Nat}
def mn {i:Int}{j:Nat}(h:tV n i=some j):seqIndex? i n=some j/\j<n/\ -(n:Int)<=i/\i<n:=by
 unfold tV at h
 by_cases h0:0<=i
 .rw[if_pos h0]at h
  by_cases h1:i<n
  .rw[if_pos h1]at h;have e:i.toNat=j:=Option.some.inj h;exact⟨by rw[seqIndex_of h0 h1,e],by omega,by omega,h1⟩
  .rw[if_neg h1]at h;cases h
 .rw[if_neg h0]at h
  by_cases h1: -(n:Int)<=i
  .rw[if_pos h1]at h;have e:(i+n).toNat=j:=Option.some.inj h;exact⟨by rw[seqIndex_neg nofun h1,e],by omega,h1,by omega⟩
  .rw[if_neg h1]at h;cases h
def dS {xs:List α}{i:Int}{v:α}(h:eP xs i=some v):∃ j,seqIndex? i xs.length=some j/\xs[j]? =some v/\j<xs.length/\ -(xs.length:Int)<=i/\i<xs.length:=by
 unfold eP at h;cases e:tV xs.length i with
 |none=>rw[e]at h;cases h
 |some j=>
  rw[e]at h;obtain⟨h1,h2,h3,h4⟩:=mn e;exact⟨j,h1,h,h2,h3,h4⟩
def dw {xs:List α}{j:Nat}{v:α}(h:xs[j]? =some v):eP xs (j:Int)=some v:=by
 have hj:j<xs.length:=(re.mp h).1;have e:tV xs.length (j:Int)=some j:=by
  unfold tV;rw[if_pos nofun,if_pos nofun];simp
 unfold eP;rw[e];exact h
abbrev lT (b:Expr):Prop:=∀ o i,subscripted b false o i=operate [o,i] (getItem o i)
abbrev yv (X:Cx)(r:R2):Prop:=
 ∀ (value slice:Expr) (Y:CD) (s:Shared) (U:St) (H:Hp) (x y:V) (v u:Value) (Q:VK),Inv X Y U H s->RelV x v->RelV y u->r x y H Q->
  subscripted slice false v u=operate [v,u] (getItem v u)->wpAny (model X.prog X.w) X.A (subscriptTail value slice v u) (EP X Y U Q) X.xe s
abbrev yb (X:Cx)(id:String)(r:V->List V->Hp->VK->Prop):Prop:=
 ∀ (Y:CD) (s:Shared) (U:St) (H:Hp) (x:V) (xs:List V) (v:Value) (us:List Value) (Q:VK),Inv X Y U H s->RelV x v->Vals xs us->r x xs H Q->
  wpAny (model X.prog X.w) X.A (call (.builtin id) (v::us)) (EP X Y U Q) X.xe s
variable {Y:CD}{U:St}{H:Hp}{s:Shared}{y:V}{u:Value}
section
variable {X:Cx}{a b:Expr}{ta tb:TE}{pos:Pos}
def zT {r:R2}(hr:yv X r)(ha:PE X a ta)(hb:PE X b tb)(hs:lT b):PE X (.Subscript a b pos) (Am r ta tb):=by
 intro Y s U H Q I h;exact Subscript_ (vZ ha hb I h λv u s2 x y H2 I2 rx ry q=>hr a b Y s2 U H2 x y v u Q I2 rx ry q (hs _ _))
abbrev A8 (K:W.Frag):R2:=λx y H Q=>∃ p xs i v,x=.ref p/\y=.int i/\aA K H p xs/\eP xs i=some v/\Q v H
abbrev AQ (K:W.Frag):R2:=λx y H Q=>∃ p xs i v,x=.ref p/\y=.int i/\cV K H p xs/\eP xs i=some v/\Q v H
abbrev Bk:R2:=λx y H Q=>∃ z i c,x=.str z/\y=.int i/\z.length<=bn/\eP z.cps.toList i=some c/\Q (.str ⟨#[c]⟩) H
def tw:yv X (A8 X.K):=by
 intro value slice Y s U H x y v u Q I rx ry h hs;obtain⟨p,xs,i,z,rfl,rfl,hq,he,q⟩:=h;cases rx;obtain⟨t,rfl⟩:=ry;obtain⟨its,r,pl,hz⟩:=I.list hq;obtain⟨j,h1,h2,h3,h4,h5⟩:=dS he;obtain⟨w,ew,rw'⟩:=r.get h2;have hl:=r.length;have hn:=de;have fin:EP X Y U Q w s:=⟨z,H,I,rw',q⟩
 by_cases h0:0<=i
 .have hj:i.toNat=j:=by
   rw[seqIndex_of h0 h5]at h1;exact Option.some.inj h1
  exact item_listR pl.isList h0 nofun (by rw[hj];simpa using ew) fin hs
 .have hj:(i+(its.toArray.size:Int)).toNat=j:=by
   rw[seqIndex_neg nofun h4]at h1;rw[ge,<-hl];exact Option.some.inj h1
  exact subscriptTail_builtinR (x:=w) pl.isList.typeIs slot_list_getitem.lookup
   (wpAny_getItem_list_neg (Q:=λr s'=>r=w/\EP X Y U Q r s') pl.isList nofun (by rw[ge]<;>omega) nofun (by rw[hj];simpa using ew) ⟨rfl,fin⟩) hs
def wu:yv X (AQ X.K):=by
 intro value slice Y s U H x y v u Q I rx ry h hs;obtain⟨p,xs,i,z,rfl,rfl,hq,he,q⟩:=h;cases rx;obtain⟨t,rfl⟩:=ry;obtain⟨its,r,pl,hz⟩:=I.tuple hq;obtain⟨j,h1,h2,h3,h4,h5⟩:=dS he;obtain⟨w,ew,rw'⟩:=r.get h2;have hl:=r.length;have hn:=de;have fin:EP X Y U Q w s:=⟨z,H,I,rw',q⟩;exact subscriptTail_builtinR (x:=w) pl.typeIs slot_tuple_getitem.lookup
  (getItem_tuple (j:=j) (Q:=λr s'=>r=w/\EP X Y U Q r s') pl nofun nofun (by rw[ge,<-hl];exact h1) (by simpa using ew) ⟨rfl,fin⟩) hs
def ya:yv X Bk:=by
 intro value slice Y s U H x y v u Q I rx ry h hs;obtain⟨z,i,c,rfl,rfl,hz,he,q⟩:=h;obtain⟨t,rfl⟩:=rx;obtain⟨t',rfl⟩:=ry;obtain⟨j,h1,h2,h3,h4,h5⟩:=dS he;have hl:z.cps.toList.length=z.length:=by simp[Str.length]
 rw[hl]at h1 h4 h5;have hn:=de;exact tail_any (typeIs_str s z t) slot_str_getitem.lookup (getItem_str (c:=c) (by
  have e1:decide (i< -(2 ^ 63:Int))=false:=decide_eq_false nofun;have e2:decide (i>=2 ^ 63)=false:=decide_eq_false nofun;rw[e1,e2,Bool.or_false]) (by rw[h1];simpa using h2) ⟨.str ⟨#[c]⟩,H,I.tok _,⟨_,rfl⟩,q⟩) hs
def lI (its:List Value)(n j:Nat)(u:Value):Obj.mapSeq (·.setIfInBounds j u) { cls:=.type "list",data:=.seq its.toArray n }={ cls:=.type "list",data:=.seq (its.set j u).toArray n }:=by
 simp[Obj.mapSeq]
def Inv.lst {Y:CD}{U:St}{H:Hp}{s:Shared}{p:Addr}{xs:List V}(I:Inv X Y U H s)(h:H p=some (.lst xs)):
  ∃ (its:List Value) (n:Nat),Vals xs its/\s.heap.get? p=some { cls:=.type "list",data:=.seq its.toArray n }/\xs.length<=bn:=by
 obtain⟨z,its,n,r,e⟩:=I.hok p _ h;exact⟨its,n,r,e,z⟩
def Inv.xC {p:Addr}{xs ys:List V}{its its':List Value}{n':Nat}{f:Obj->Obj}(I:Inv X Y U H s)(h:H p=some (.lst xs))
  (ho:s.heap.get? p=some { cls:=.type "list",data:=.seq its.toArray n }) (hf:f { cls:=.type "list",data:=.seq its.toArray n }={ cls:=.type "list",data:=.seq its'.toArray n' }) (r:Vals ys its') (hz:ys.length<=bn) (t:Nat):
  Inv X Y U (upd H p (.lst ys)) { s with heap:=s.heap.update p f,toks:=t }:=by
 have e:(s.heap.update p f).get? p=some { cls:=.type "list",data:=.seq its'.toArray n' }:=by
  rw[Heap.get?_update_self f ho (by rw[hf]<;>rfl),hf]
 refine I.write (x:=p) (e:=p) (by rw[h];trivial) (.inl rfl) (λb u hb q=>(Heap.get?_update_other _ _ (Ne.symm hb)).trans q) ⟨_,e⟩ ?_;exact⟨hz,its',n',r,e⟩
abbrev zh:V->V->V->Hp->(Hp->Prop)->Prop:=λo i v H Q=>∃ p xs k j,o=.ref p/\i=.int k/\H p=some (.lst xs)/\tV xs.length k=some j/\Q (upd H p (.lst (xs.set j v)))
def set_list:sW X zh:=by
 intro Y s U H o i v ov iv u Q I ro ri rv h;obtain⟨p,xs,k,j,rfl,rfl,hp,hj,q⟩:=h;cases ro;obtain⟨t,rfl⟩:=ri;obtain⟨its,n,r,ho,hz⟩:=I.lst hp;obtain⟨h1,h2,h3,h4⟩:=mn hj;have hl:=r.length;have hn:=de;have I':Inv X Y U (upd H p (.lst (xs.set j v))) { s with heap:=s.heap.update p (Obj.mapSeq (·.setIfInBounds j u)) }:=
  I.xC hp ho (lI its n j u) (r.set rv j) (by rw[length_set];exact hz) s.toks
 by_cases h0:0<=k
 .have hk:k.toNat=j:=by
   rw[seqIndex_of h0 h4]at h1;exact Option.some.inj h1
  exact W.ki_setAt ho h0 nofun (by rw[ge,<-hl];exact h4) (by rw[hk];exact⟨_,I',q⟩)
 .have hk:(k+(its.toArray.size:Int)).toNat=j:=by
   rw[seqIndex_neg nofun h3]at h1;rw[ge,<-hl];exact Option.some.inj h1
  exact W.ki_setBack ho nofun (by rw[ge,<-hl];exact h3) nofun (by rw[hk];exact⟨_,I',q⟩)
def iU (lo hi:Option Int)(n:Nat):(sliceBounds lo hi none n).1=((HT.jM n 0 lo:Nat):Int)/\(sliceBounds lo hi none n).2.1=((HT.jM n n hi:Nat):Int)/\(sliceBounds lo hi none n).2.2=1:=by
 refine⟨?_,?_,rfl⟩
 .cases lo with
  |none=>simp[sliceBounds,HT.jM]
  |some i=>
   simp only[sliceBounds,HT.jM,Option.getD_none,show(1:Int)>0 by decide,if_true]
   by_cases h:i<0
   .simp only[h,if_true]<;>omega
   .simp only[h,if_false]<;>omega
 .cases hi with
  |none=>simp[sliceBounds,HT.jM]
  |some i=>
   simp only[sliceBounds,HT.jM,Option.getD_none,show(1:Int)>0 by decide,if_true]
   by_cases h:i<0
   .simp only[h,if_true]<;>omega
   .simp only[h,if_false]<;>omega
def gv (its:List Value)(lo hi:Option Int):slicePick its.toArray lo hi none=((its.drop (HT.jM its.length 0 lo)).take (HT.jM its.length its.length hi-HT.jM its.length 0 lo)).toArray:=by
 obtain⟨h1,h2,h3⟩:=iU lo hi its.toArray.size;unfold slicePick;rw[h1,h2,h3];simp only[sliceRange_one,pick_run,ge]<;>rfl
abbrev AV (K:W.Frag):V->Option Int->Option Int->Hp->VK->Prop:=λx lo hi H Q=>∃ a xs,x=.ref a/\aA K H a xs/\∀ p,H p=none->Q (.ref p) (upd H p (.lst (jR xs lo hi)))
def tj:Ar X (AV X.K):=by
 intro Y s U H x v vl vu lo hi sl Q I rx hs pl pu h;obtain⟨a,xs,rfl,hx,q⟩:=h;cases rx;obtain⟨its,r,ht,hz⟩:=I.list hx;have hlen:=r.length;refine⟨"list",_,slot_list_getitem.lookup,ht.isList.typeIs,?_⟩;refine wpAny_getItem_list_slice ht.isList hs pl pu .none (by simp) ?_ (by rw[ge]<;>omega);rw[gv,<-hlen];refine⟨.ref s.heap.objs.size,_,I.laid (t':=s.toks) (o:=.lst (jR xs lo hi)) (λb ob q=>sn _ q) (ol _) ?_,rfl,q _ (I.hok.fresh (ol _))⟩;exact⟨Nat.le_trans (ju xs lo hi) hz,_,0,(r.drop (HT.jM xs.length 0 lo)).take (HT.jM xs.length xs.length hi-HT.jM xs.length 0 lo),sw _ rfl⟩
abbrev au:V->Bool
 | .non=>true
 | .bl _=>true
 | .int _=>true
 | .str _=>true
 |_=>false
abbrev fm:V->V->Bool
 | .non,.non=>true
 | .bl a,.bl b=>a ==b
 | .bl a,.int b=>(if a then 1 else 0) ==b
 | .int a,.bl b=>a ==(if b then 1 else 0)
 | .int a,.int b=>a ==b
 | .str a,.str b=>a ==b
 |_,_=>false
def rO {A:Around}{x:V}{v:Value}(ry:RelV y u)(rx:RelV x v)(fy:au y=true)(fx:au x=true):SeqAt.EqAt A s u v (fm y x):=by
 cases y with
 |non=>
  cases ry;cases x with
  |non=>cases rx;exact SeqAt.EqAt.same _
  |bl b=>cases rx;exact SeqAt.EqAt.none_bool b
  |int b=>obtain⟨t,rfl⟩:=rx;exact SeqAt.EqAt.none_int b t
  |str b=>obtain⟨t,rfl⟩:=rx;exact SeqAt.EqAt.none_str b t
  |_=>exact absurd (show false=true from fx) Bool.false_ne_true
 |bl a=>
  cases ry;cases x with
  |non=>cases rx;exact SeqAt.EqAt.bool_none a
  |bl b=>cases rx;exact SeqAt.EqAt.bool_bool a b
  |int b=>obtain⟨t,rfl⟩:=rx;exact SeqAt.EqAt.bool_int a b t
  |str b=>obtain⟨t,rfl⟩:=rx;exact SeqAt.EqAt.bool_str a b t
  |_=>exact absurd (show false=true from fx) Bool.false_ne_true
 |int a=>
  obtain⟨t',rfl⟩:=ry;cases x with
  |non=>cases rx;exact SeqAt.EqAt.int_none a t'
  |bl b=>cases rx;exact SeqAt.EqAt.int_bool a t' b
  |int b=>obtain⟨t,rfl⟩:=rx;exact SeqAt.EqAt.int_int a t' b t
  |str b=>obtain⟨t,rfl⟩:=rx;exact SeqAt.EqAt.int_str a t' b t
  |_=>exact absurd (show false=true from fx) Bool.false_ne_true
 |str a=>
  obtain⟨t',rfl⟩:=ry;cases x with
  |non=>cases rx;exact SeqAt.EqAt.str_none a t'
  |bl b=>cases rx;exact SeqAt.EqAt.str_bool a t' b
  |int b=>obtain⟨t,rfl⟩:=rx;exact SeqAt.EqAt.str_int a t' b t
  |str b=>obtain⟨t,rfl⟩:=rx;exact SeqAt.EqAt.str_str a t' b t
  |_=>exact absurd (show false=true from fx) Bool.false_ne_true
 |_=>exact absurd (show false=true from fy) Bool.false_ne_true
abbrev kW (x:V)(u:Value):Bool:=match u with
 | .none=>fm .non x
 | .bool b=>fm (.bl b) x
 | .int i _=>fm (.int i) x
 | .str z _=>fm (.str z) x
 |_=>false
def qH {x:V}(r:RelV y u)(f:au y=true):kW x u=fm y x:=by
 cases y with
 |non=>cases r;rfl
 |bl b=>cases r;rfl
 |int i=>obtain⟨t,rfl⟩:=r;rfl
 |str z=>obtain⟨t,rfl⟩:=r;rfl
 |_=>exact absurd (show false=true from f) Bool.false_ne_true
def dY {x:V}:∀ {xs:List V}{us:List Value},Vals xs us->xs.all au=true->us.any (kW x)=xs.any λy=>fm y x
 |_,_,.nil,_=>rfl
 |y::xs,u::us,.cons r t,f=>by
  rw[all_cons,lw]at f;rw[any_cons,any_cons,qH r f.1,dY t f.2]
def cw {A:Around}{s:Shared}{x:V}{v:Value}(rx:RelV x v)(fx:au x=true):∀ {xs:List V}{us:List Value},Vals xs us->xs.all au=true->∀ u ∈ us,SeqAt.EqAt A s u v (kW x u)
 |_,_,.nil,_=>λu hu=>by cases hu
 |y::xs,u::us,.cons r t,f=>λu' hu=>by
  rw[all_cons,lw]at f;rcases lv.mp hu with rfl|hu
  .rw[qH r f.1];exact rO r rx f.1 fx
  .exact cw rx fx t f.2 u' hu
abbrev rC (x:V)(xs:List V):Bool:=xs.any λy=>fm y x
abbrev BJ (K:W.Frag)(neg:Bool):R2:=λx y H Q=>∃ p xs,y=.ref p/\(aA K H p xs\/cV K H p xs)/\au x=true/\xs.all au=true/\Q (.bl (if neg then !rC x xs else rC x xs)) H
def nS:bp X (compareOp .In) (BJ X.K false):=by
 intro Y s U H x y v u Q I rx ry h;obtain⟨p,xs,rfl,hq,fx,fs,q⟩:=h;cases ry;rcases hq with hq|hq
 .obtain⟨its,r,pl,hz⟩:=I.list hq;refine SeqAt.in_listAt (kW x) pl.isList (λw hw=>cw rx fx r fs w (by simpa using hw)) ⟨.bl _,H,I,rfl,?_⟩;rw[show its.toArray.any (kW x)=its.any (kW x) by simp,dY r fs];exact q
 .obtain⟨its,r,pl,hz⟩:=I.tuple hq;refine SeqAt.in_tupleAt (kW x) pl (λw hw=>cw rx fx r fs w (by simpa using hw)) ⟨.bl _,H,I,rfl,?_⟩;rw[show its.toArray.any (kW x)=its.any (kW x) by simp,dY r fs];exact q
def iw:bp X (compareOp .NotIn) (BJ X.K true):=by
 intro Y s U H x y v u Q I rx ry h;obtain⟨p,xs,rfl,hq,fx,fs,q⟩:=h;cases ry;rcases hq with hq|hq
 .obtain⟨its,r,pl,hz⟩:=I.list hq;refine SeqAt.notIn_listAt (kW x) pl.isList (λw hw=>cw rx fx r fs w (by simpa using hw)) ⟨.bl _,H,I,rfl,?_⟩;rw[show its.toArray.any (kW x)=its.any (kW x) by simp,dY r fs];exact q
 .obtain⟨its,r,pl,hz⟩:=I.tuple hq;refine SeqAt.notIn_tupleAt (kW x) pl (λw hw=>cw rx fx r fs w (by simpa using hw)) ⟨.bl _,H,I,rfl,?_⟩;rw[show its.toArray.any (kW x)=its.any (kW x) by simp,dY r fs];exact q
def iQ:bG X (.type "list") (λxs H Q=>∃ p ys,xs=[.ref p]/\(aA X.K H p ys\/cV X.K H p ys)/\∀ l,H l=none->Q (.ref l) (upd H l (.lst ys))):=by
 intro Y s U H xs us Q I r h;obtain⟨p,ys,rfl,hq,q⟩:=h;obtain⟨u,rfl,rx⟩:=vals1 r;cases rx;have fin:∀ (its:List Value),Vals ys its->ys.length<=bn->∀ (h':Heap) (c':Nat),(∀ b o',s.heap.get? b=some o'->h'.get? b=some o')->
   h'.get? s.heap.objs.size=some { cls:=.type "list",dict:=none,data:=.seq its.toArray c',slots:=#[] }->EP X Y U Q (.ref s.heap.objs.size) { s with heap:=h' }:=λits r' hz h' c' kp e=>
  ⟨.ref s.heap.objs.size,_,I.laid (t':=s.toks) kp (ol _) (show aj X.prog X.w _ h' _ (.lst ys) from⟨hz,its,c',r',e⟩),rfl,q _ (I.hok.fresh (ol _))⟩
 rcases hq with hq|hq
 .obtain⟨its,r',pl,hz⟩:=I.list hq;have hlen:=r'.length;obtain⟨o,ho,hc,n,hd⟩:=pl.isList;exact call_list_seq p (.inl rfl) ho hc hd (λh' c' kp e=>fin its r' hz h' c' kp e) (by simp only[ge]<;>omega)
 .obtain⟨its,r',pl,hz⟩:=I.tuple hq;have hlen:=r'.length;obtain⟨o,ho,hc,n,hd⟩:=pl;exact call_list_seq p (.inr rfl) ho hc hd (λh' c' kp e=>fin its r' hz h' c' kp e) (by simp only[ge]<;>omega)
abbrev Bd (K:W.Frag)(T:String)(x:V)(H:Hp):Prop:=match x with
 | .str _=>T="str"
 | .int _=>T="int"
 | .ref p=>(T="list"/\∃ xs,aA K H p xs)\/(T="tuple"/\∃ o,K.lookup p=some o/\o.cls=.type "tuple"/\o.dict=none)\/
   (T="dict"/\((∃ kvs,H p=some (.dK kvs))\/∃ kvs,H p=some (.dT kvs)))\/(T="set"/\∃ S n,H p=some (.set S n))
 |_=>False
def sg {T:String}{x:V}{v:Value}(I:Inv X Y U H s)(r:RelV x v)(ty:Bd X.K T x H):
  s.TypeIs v T/\∀ a,v=.ref a->∃ ob,s.heap.get? a=some ob/\ob.dict=none:=by
 cases x with
 |str z=>
  obtain⟨t,rfl⟩:=r;cases(show T="str" from ty);exact⟨typeIs_str s z t,λ_ e=>nomatch e⟩
 |int i=>
  obtain⟨t,rfl⟩:=r;cases(show T="int" from ty);exact⟨typeIs_int s i t,λ_ e=>nomatch e⟩
 |ref p=>
  cases r;rcases ty with⟨rfl,xs,hq⟩|⟨rfl,o,hk,hc,hd⟩|⟨rfl,hk⟩|⟨rfl,S,n,hk⟩
  .obtain⟨its,_,pl,_⟩:=I.list hq;refine⟨pl.isList.typeIs,λa e=>?_⟩;cases e;obtain⟨o,n,e,c,hd,_⟩:=pl;exact⟨o,e,hd⟩
  .refine⟨⟨o,I.aT p o hk,hc⟩,λa e=>?_⟩;cases e;exact⟨o,I.aT _ o hk,hd⟩
  .have z:∃ o,s.heap.get? p=some o/\o.ExactDict:=by
    rcases hk with⟨kvs,hk⟩|⟨kvs,hk⟩
    .obtain⟨_,_,_,_,o,_,_,e,ex,_⟩:=I.hok p _ hk;exact⟨o,e,ex⟩
    .obtain⟨_,_,_,_,o,_,_,e,ex,_⟩:=I.hok p _ hk;exact⟨o,e,ex⟩
   obtain⟨o,e,ex⟩:=z;refine⟨⟨o,e,ex.1⟩,λa e2=>?_⟩;cases e2;exact⟨o,e,ex.2.1⟩
  .obtain⟨o,_,_,_,e,ex,_⟩:=I.hok p _ hk;refine⟨⟨o,e,ex.1⟩,λa e2=>?_⟩;cases e2;exact⟨o,e,ex.2.1⟩
 |_=>exact False.elim ty
abbrev AE (K:W.Frag)(T:String)(r:V->List V->Hp->VK->Prop)(to:TE):TE:=λU H Q=>to U H λx H1=>Bd K T x H1/\r x [] H1 Q
abbrev Cb (K:W.Frag)(T:String)(r:V->List V->Hp->VK->Prop)(to:TE)(t:TA):TE:=λU H Q=>to U H λx H1=>Bd K T x H1/\t U H1 λxs H2=>r x xs H2 Q
variable {o e:Expr}{es:List Expr}{to:TE}{t:TA}{name:Str}{apos cpos:Pos}{T id:String}{r:V->List V->Hp->VK->Prop}
def yj (pa:PlainAttrs T)(slot:Slot T name id)(hty:typeOf (.builtin id)=pure (.type "method_descriptor")) (hm:yb X id r) (ho:PE X o to)
  (hbase:attributeBase o name X.env (eval o X.env)=eval o X.env:=by rfl) (hline:(apos.endLine ==cpos.line)=true:=by rfl):PE X (.Call (.Attribute o name apos) [] [] cpos) (AE X.K T r to):=by
 intro Y s U H Q I h;refine wpAny_Call_method0_late hbase hline (ar (ho Y s U H _ I h) λv s1 ⟨x,H1,I1,r1,ty,q1⟩=>?_);obtain⟨h1,h2⟩:=sg I1 r1 ty;exact⟨T,id,pa,slot,hty,h1,h2,Calls.callWith_builtin rfl (PySem.evalArgs_none (hm Y s1 U H1 x [] v [] Q I1 r1 .nil q1))⟩
def o7 (pa:PlainAttrs T)(slot:Slot T name id)(hty:typeOf (.builtin id)=pure (.type "method_descriptor")) (hm:yb X id r) (ho:PE X o to) (ha:PA X (e::es) t)
  (hbase:attributeBase o name X.env (eval o X.env)=eval o X.env:=by rfl)
  (hfew:((backTo cpos (bm (e::es) X.env)).all (λx=>!x.1)&&(backToKw cpos (keywordEach [] X.env)).all (λx=>x.1.isSome)
   &&decide ((e::es).length+([]:List Keyword).length+(if([]:List Keyword).isEmpty then 0 else 1)<30))=true:=by rfl)
  (hline:(apos.endLine ==cpos.line)=true:=by rfl) (hs:bm (e::es) X.env=(false,eval e X.env)::bm es X.env:=by rfl) (hplain:(backTo cpos (bm es X.env)).any (·.1)=false:=by rfl):
  PE X (.Call (.Attribute o name apos) (e::es) [] cpos) (Cb X.K T r to t):=by
 intro Y s U H Q I h;refine wpAny_Call_method_late hbase hfew hline rfl (ar (ho Y s U H _ I h) λv s1 ⟨x,H1,I1,r1,ty,q1⟩=>?_);obtain⟨h1,h2⟩:=sg I1 r1 ty;refine⟨T,id,pa,slot,hty,h1,h2,?_⟩;have hA:=ha cpos Y s1 U H1 _ I1 q1;rw[hs]at hA⊢;refine Calls.callWith_builtin (by show(false||(backTo cpos (bm es X.env)).any (·.1))=false;rw[hplain]<;>rfl) (Calls.evalArgs_plain ?_);exact ar hA λus s2 ⟨vs,H2,I2,r2,q2⟩=>hm Y s2 U H2 x vs v us Q I2 r1 r2 q2
/- xs.append(e),list.index on a module's tuple .. are yb facts of 06m -/
end
abbrev Cv (X:Cx)(id:String)(r:V->List V->Hp->VK->Prop):Prop:=
 ∀ (Y:CD) (s:Shared) (U:St) (H:Hp) (x:V) (xs:List V) (v:Value) (us:List Value) (Q:VK),Inv X Y U H s->RelV x v->Vals xs us->r x xs H Q->
  wpAny (model X.prog X.w) X.A (call (.builtin id) (v::us)) (EP X Y U Q) X.xe s
def Vals.one:∀ {x:V}{us:List Value},Vals [x] us->∃ u,us=[u]/\RelV x u
 |_,_,.cons r .nil=>⟨_,rfl,r⟩
def Vals.zero:∀ {us:List Value},Vals [] us->us=[]
 |_,.nil=>rfl
variable {us:List Value}
def Vals.reverse {xs:List V}(h:Vals xs us):Vals xs.reverse us.reverse:=by
 induction h with
 |nil=>exact .nil
 |cons r t ih=>rw[List.reverse_cons,List.reverse_cons];exact Vals.append ih (.cons r .nil)
def Vals.rep {xs:List V}(h:Vals xs us):∀ k:Nat,Vals (pi k xs).flatten (pi k us).flatten
 |0=>.nil
 |k+1=>by
  rw[replicate_succ,replicate_succ,flatten_cons,flatten_cons];exact Vals.append h (Vals.rep h k)
def foldl_rep (its:List Value):∀ (k:Nat) (acc:List Value),
  List.foldl (λx1 x2=>x1++x2) acc.toArray (pi k its.toArray)=(acc++(pi k its).flatten).toArray
 |0,acc=>by simp
 |k+1,acc=>by
  have e:acc.toArray++its.toArray=(acc++its).toArray:=by simp
  have e2:(acc++its)++(pi k its).flatten=acc++(pi (k+1) its).flatten:=by
   rw[replicate_succ,flatten_cons,le]
  rw[<-e2,<-foldl_rep its k (acc++its),<-e,replicate_succ,foldl_cons]
section
variable {X:Cx}{Y:CD}{U:St}{H:Hp}{s:Shared}{l b:Addr}{xs ys zs:List V}
def Inv.A3 {its its':List Value}{f:Array Value->Array Value}{t':Nat}(I:Inv X Y U H s)(hH:H l=some (.lst xs))
  (e:s.heap.get? l=some { cls:=.type "list",data:=.seq its.toArray n }) (hf:f its.toArray=its'.toArray) (hv:Vals ys its') (hz:ys.length<=bn):
  Inv X Y U (upd H l (.lst ys)) { s with heap:=s.heap.update l (Obj.mapSeq f),toks:=t' }:=by
 have q:=PySem.IsL.update e f;rw[hf]at q;refine I.write (x:=l) (e:=l) (by rw[hH];exact trivial) (.inl rfl) (λb' u hb hu=>(Heap.get?_update_other s.heap (Obj.mapSeq f) (Ne.symm hb)).trans hu) ⟨_,q⟩ ?_;exact⟨hz,its',_,hv,q⟩
def Inv.yU {its:List Value}{t':Nat}(I:Inv X Y U H s)(hv:Vals ys its)(hz:ys.length<=bn):
  Inv X Y U (upd H s.heap.objs.size (.lst ys)) { s with heap:=s.heap.push { cls:=.type "list",data:=.seq its.toArray },toks:=t' }:=
 I.laid (λ_ _ q=>sn _ q) (ol _) ⟨hz,its,0,hv,sw _ rfl⟩
def Inv.fresh (I:Inv X Y U H s):H s.heap.objs.size=none:=I.hok.fresh (ol _)
def Inv.qp (I:Inv X Y U H s)(hH:H l=some (.lst xs)):xs.length<=bn/\∃ (its:List Value) (n:Nat),Vals xs its/\xs.length=its.length/\s.heap.get? l=some { cls:=.type "list",data:=.seq its.toArray n }:=by
 obtain⟨z,its,n,r,e⟩:=I.hok l _ hH;exact⟨z,its,n,r,r.length,e⟩
def qm (h:n<=bn):Builtin.List.listTooLong n=false:=by
 unfold Builtin.List.listTooLong;exact decide_eq_false nofun
end
section
variable {X:Cx}
abbrev tZ:V->List V->Hp->VK->Prop:=λx vs H Q=>∃ l xs y,x=.ref l/\vs=[y]/\H l=some (.lst xs)/\xs.length<bn/\Q .non (upd H l (.lst (xs++[y])))
def eg:Cv X "list.append" tZ:=by
 intro Y s U H x vs v us Q I rx rv h;obtain⟨l,xs,y,rfl,rfl,hH,hz,q⟩:=h;cases rx;obtain⟨u,rfl,ru⟩:=rv.one;obtain⟨z,its,n,r,hl,e⟩:=I.qp hH;refine call_meets F.slot_list_append ⟨_,e,rfl⟩ F.entry_list_append (F.args_list_append_2 _ _) (PySem.list_append l its.toArray n u (by rw[ge];omega)) ⟨e,?_⟩;refine⟨.non,_,I.A3 (its':=its++[u]) hH e (by simp) (r.append (.cons ru .nil)) ?_,rfl,q⟩;rw[ci,f8]
 omega
abbrev Bs:R2:=λx y H Q=>∃ l b xs zs,x=.ref l/\y=.ref b/\H l=some (.lst xs)/\H b=some (.lst zs)/\xs.length+zs.length<=bn/\∀ p,H p=none->Q (.ref p) (upd H p (.lst (xs++zs)))
def w8:bp X (binaryOp .Add) Bs:=by
 intro Y s U H x y v u Q I rx ry h;obtain⟨l,b,xs,zs,rfl,rfl,hH,hB,hz,q⟩:=h;cases rx;cases ry;obtain⟨z,its,n,r,hl,e⟩:=I.qp hH;obtain⟨z2,pZ,n2,r2,hl2,e2⟩:=I.qp hB;refine PySem.P.add_list e e2 ?_ (by rw[ge,ge];omega);have ea:its.toArray++pZ.toArray=(its++pZ).toArray:=by simp
 rw[ea];exact⟨.ref _,_,I.yU (t':=s.toks) (r.append r2) (by rw[ci];omega),rfl,q _ I.fresh⟩
abbrev Bu:R2:=λx y H Q=>∃ l k xs,x=.ref l/\y=.int k/\H l=some (.lst xs)/\ -(2 ^ 63)<=k/\k<2 ^ 63/\xs.length*k.toNat<=bn/\
 ∀ p,H p=none->Q (.ref p) (upd H p (.lst (pi k.toNat xs).flatten))
def len_rep (xs:List α)(k:Nat):(pi k xs).flatten.length=k*xs.length:=by
 induction k with
 |zero=>simp
 |succ k ih=>rw[replicate_succ,flatten_cons,ci,ih,Nat.succ_mul,Nat.add_comm]
def wF:bp X (binaryOp .Mult) Bu:=by
 intro Y s U H x y v u Q I rx ry h;obtain⟨l,k,xs,rfl,rfl,hH,h1,h2,hz,q⟩:=h;cases rx;obtain⟨t,rfl⟩:=ry;obtain⟨z,its,n,r,hl,e⟩:=I.qp hH;have hlen:its.toArray.size*k.toNat<=bn:=by rw[ge,<-hl];exact hz
 have hcap:¬ its.toArray.size*k.toNat>(2 ^ 63-1) / 8:=by
  have:(bn:Nat)<=(2 ^ 63-1) / 8:=by decide
  omega
 have hfit:¬ (!Builtin.List.listFitsIndex k)=true:=by
  rw[fitsIndex_both h1 h2];exact Bool.false_ne_true
 have hlong:¬ Builtin.List.listTooLong (its.toArray.size*k.toNat)=true:=by
  rw[qm hlen];exact Bool.false_ne_true
 have hnew:List.foldl (λx1 x2=>x1++x2) #[] (pi (if its.toArray.isEmpty=true then 0 else k.toNat) its.toArray)=(pi k.toNat its).flatten.toArray:=by
  have f0:∀ m:Nat,List.foldl (λx1 x2=>x1++x2) #[] (pi m its.toArray)=(pi m its).flatten.toArray:=λm=>by
   have:=foldl_rep its m [];rw[nil_append]at this;exact this
  rw[f0];cases its with
  |nil=>simp
  |cons a r'=>rw[if_neg (by simp)]
 refine wpAny_binaryOp_repeat_ref (T:="list") (U:="int") (by decide) ⟨_,e,rfl⟩ (λs'=>typeIs_int s' k t) noFill_list_mul F.fills_int_mul F.slot_int_rmul repeat_list F.slot_int_index.lookup
  (call_meets F.slot_int_rmul (typeIs_int s k t) F.entry_int_rmul (F.args_int_rmul_2 _ _) (int___rmul___int_list k t l its.toArray n)
   ⟨e,rfl,⟨_,e,rfl⟩,call_meets F.slot_list_mul ⟨_,e,rfl⟩ F.entry_list_mul (F.args_list_mul_2 _ _) (AutoListH.list___mul___list_int_3 l its.toArray n k t hfit hcap hlong) ⟨e,?_⟩⟩)
 rw[hnew];exact⟨.ref _,_,I.yU (t':=s.toks) (r.rep k.toNat) (by rw[len_rep,Nat.mul_comm];exact hz),rfl,q _ I.fresh⟩
end
section
variable {prog:Program}{w:World}{A:Around}{E:CC}{s:Shared}
set_option maxRecDepth 100000 in
end
section
variable {X:Cx}
end
variable {o:Option V}
section
variable {κ:Type} [DecidableEq κ]
abbrev aX (kvs:List (κ×V))(k:κ):Option V:=(kvs.find? λkv=>decide (kv.1=k)).map (·.2)
abbrev putK (kvs:List (κ×V))(k:κ)(v:V):List (κ×V):=
 if(kvs.any λkv=>decide (kv.1=k))=true then kvs.map (λkv=>if kv.1=k then(kv.1,v) else kv) else kvs++[(k,v)]
def bD {p:κ×V}{r:List (κ×V)}{k:κ}(e:p.1=k):aX (p::r) k=some p.2:=by simp[aX,find?_cons,e]
def cn {p:κ×V}{r:List (κ×V)}{k:κ}(e:¬ p.1=k):aX (p::r) k=aX r k:=by simp[aX,find?_cons,e]
def dM (k:κ):∀ kvs:List (κ×V),(kvs.any λkv=>decide (kv.1=k))=(aX kvs k).isSome
 | []=>rfl
 |p::r=>by
  rw[any_cons]
  by_cases e:p.1=k
  .simp only[bD e,decide_eq_true e,Bool.true_or,Option.isSome_some]
  .rw[cn e,decide_eq_false e,Bool.false_or];exact dM k r
def e9 (kvs:List (κ×V))(k:κ)(v:V):(putK kvs k v).length<=kvs.length+1:=by
 unfold putK
 split
 .rw[ce];omega
 .rw[ci,length_cons,List.length_nil];omega
def bC.bH {u:Option Value}(r:bC o u):o.isSome=u.isSome:=by
 cases o with
 |none=>cases u with
  |none=>rfl
  |some _=>exact(show False from r).elim
 |some _=>cases u with
  |none=>exact(show False from r).elim
  |some _=>rfl
def KV.val {kvs:List (κ×V)}{vs:List (κ×Value)}(r:KV kvs vs)(k:κ):bC (aX kvs k) (valueAt vs k):=by
 unfold KV at r
 induction r with
 |nil=>exact True.intro
 | @cons p q ps qs h t ih=>
  obtain⟨h1,h2⟩:=h
  by_cases e:p.1=k
  .have e':q.1=k:=h1.symm.trans e;have b:valueAt (q::qs) k=some q.2:=by simp[valueAt,find?_cons,e']
   rw[bD e,b];exact h2
  .have e':¬ q.1=k:=λz=>e (h1.trans z)
   have b:valueAt (q::qs) k=valueAt qs k:=by simp[valueAt,find?_cons,e']
   rw[cn e,b];exact ih
def KV.any {kvs:List (κ×V)}{vs:List (κ×Value)}(r:KV kvs vs)(k:κ):(kvs.any λkv=>decide (kv.1=k))=vs.any λkv=>decide (kv.1=k):=by
 unfold KV at r
 induction r with
 |nil=>rfl
 |cons h t ih=>rw[any_cons,any_cons,ih,h.1]
def KV.wU {kvs:List (κ×V)}{vs:List (κ×Value)}(r:KV kvs vs)(k:κ)(ry:RelV y u):
  KV (kvs.map λkv=>if kv.1=k then(kv.1,y) else kv) (vs.map λkv=>if kv.1=k then(kv.1,u) else kv):=by
 unfold KV at r⊢
 induction r with
 |nil=>exact .nil
 | @cons p q ps qs h t ih=>
  rw[map_cons,map_cons];refine .cons ?_ ih;obtain⟨h1,h2⟩:=h
  by_cases e:p.1=k
  .rw[if_pos e,if_pos (h1.symm.trans e)];exact⟨h1,ry⟩
  .rw[if_neg e,if_neg (λz=>e (h1.trans z))];exact⟨h1,h2⟩
def KV.put {kvs:List (κ×V)}{vs:List (κ×Value)}(r:KV kvs vs)(k:κ)(ry:RelV y u):KV (putK kvs k y) (stored vs k u):=by
 unfold putK stored;rw[r.any k]
 by_cases e:(vs.any λkv=>decide (kv.1=k))=true
 .rw[if_pos e,if_pos e];exact r.wU k ry
 .rw[if_neg e,if_neg e];exact Paired.snoc r ⟨rfl,ry⟩
def KV.length {kvs:List (κ×V)}{vs:List (κ×Value)}(r:KV kvs vs):kvs.length=vs.length:=Paired.length r
end
variable {P:Program}{w:World}
def jj {k:Key}(r:RelV (kV k) u):(aw P w).is k u=true:=by
 cases k with
 |inl i=>obtain⟨t,e⟩:=(show ∃ t,u=Value.int i t from r);subst e;exact ki P w i t
 |inr x=>obtain⟨t,e⟩:=(show ∃ t,u=Value.str x t from r);subst e;exact j7 P w x t
def gU {P:Program}{w:World}:∀ {ks:List Key}{us:List Value},Vals (ks.map kV) us->ItemsAre (aw P w) ks us
 | [],_,r=>by rw[List.map_nil]at r;cases r;exact .nil
 |k::ks,_,r=>by
  rw[map_cons]at r;cases r with
  |cons h t=>exact .cons (jj h) (gU t)
@[reducible]def KT (H:Hp):List (List Key×V)->List (List Key×Addr×Value)->Prop:=Paired λp q=>p.1=q.1/\H q.2.1=some (.tup (p.1.map kV))/\RelV p.2 q.2.2
variable {xs:List (List Key×Addr×Value)}{kvs:List (List Key×V)}
def KT.val (r:KT H kvs xs)(k:List Key):bC (aX kvs k) ((atKey xs k).map (·.2)):=by
 induction r with
 |nil=>exact True.intro
 | @cons p q ps qs h t ih=>
  obtain⟨h1,_,h2⟩:=h
  by_cases e:p.1=k
  .have e':q.1=k:=h1.symm.trans e;have b:atKey (q::qs) k=some q.2:=by simp[atKey,find?_cons,e']
   rw[bD e,b];exact h2
  .have e':¬ q.1=k:=λz=>e (h1.trans z)
   have b:atKey (q::qs) k=atKey qs k:=by simp[atKey,find?_cons,e']
   rw[cn e,b];exact ih
def KT.wU (r:KT H kvs xs)(k:List Key)(ry:RelV y u):
  KT H (kvs.map λkv=>if kv.1=k then(kv.1,y) else kv) (xs.map (putAt k u)):=by
 induction r with
 |nil=>exact .nil
 | @cons p q ps qs h t ih=>
  rw[map_cons,map_cons];refine .cons ?_ ih;obtain⟨h1,h2,h3⟩:=h;unfold putAt
  by_cases e:p.1=k
  .rw[if_pos e,if_pos (h1.symm.trans e)];exact⟨h1,h2,ry⟩
  .rw[if_neg e,if_neg (λz=>e (h1.trans z))];exact⟨h1,h2,h3⟩
def KT.put (r:KT H kvs xs)(k:List Key){b:Addr}(hb:H b=some (.tup (k.map kV)))(ry:RelV y u):
  KT H (putK kvs k y) (storedH xs k b u):=by
 have e:(kvs.any λkv=>decide (kv.1=k))=(atKey xs k).isSome:=by
  rw[dM,(r.val k).bH,Option.isSome_map]
 unfold putK storedH;rw[e]
 by_cases q:(atKey xs k).isSome=true
 .rw[if_pos q,if_pos q];exact r.wU k ry
 .rw[if_neg q,if_neg q];exact Paired.snoc r ⟨rfl,hb,ry⟩
variable {H':Hp}
def KT.keeps (r:KT H kvs xs)(ht:∀ b ys,H b=some (.tup ys)->H' b=some (.tup ys)):KT H' kvs xs:=
 Paired.wt r λ_ _ z=>⟨z.1,ht _ _ z.2.1,z.2.2⟩
section
variable {P:Program}{w:World}{H:Hp}{h:Heap}{a:Addr}
def vz {u:HO}(ok:c4 P w H h)(e:Rd H a u):aj P w H h a u:=e.ok ok
def eO {kvs:List (Key×V)}(ok:c4 P w H h)(e:Rd H a (.dK kvs)):kvs.length<=bn/\(a ==sysModules)=false/\∃ vs,KV kvs vs/\h.DictOf (aw P w) a vs:=
 show aj P w H h a (.dK kvs) from vz ok e
def Ak {kvs:List (Key×V)}(ok:c4 P w H h)(e:H a=some (.dK kvs)):kvs.length<=bn/\(a ==sysModules)=false/\∃ vs,KV kvs vs/\h.DictOf (aw P w) a vs:=eO ok (.inl e)
def fT {ks:List Key}(ok:c4 P w H h)(e:H a=some (.tup (ks.map kV))):(tupleKind (aw P w)).is h ks a:=by
 obtain⟨_,its,r,o,h1,h2,n,h3⟩:=(show aj P w H h a (.tup (ks.map kV)) from ok a _ e);exact⟨o,its.toArray,n,h1,h2,h3,by simpa using gU r⟩
def jx (ok:c4 P w H h)(e:Rd H a (.dT kvs)):kvs.length<=bn/\(a ==sysModules)=false/\
  ∃ xs,KT H kvs xs/\h.DictOfH (tupleKind (aw P w)) a xs:=by
 obtain⟨z,y,xs,r,o,es,ep,h1,h2,h3,h4,h5⟩:=(show aj P w H h a (.dT kvs) from vz ok e);refine⟨z,y,xs,r,o,es,ep,h1,h2,h3,h4,λx hx=>?_,h5⟩;have all:∀ {l:List (List Key×V)}{m:List (List Key×Addr×Value)},KT H l m->∀ x ∈ m,(tupleKind (aw P w)).is h x.1 x.2.1:=by
  intro l m q
  induction q with
  |nil=>intro x hx;exact nomatch hx
  | @cons p q ps qs hq t ih=>
   intro x hx;rcases lv.mp hx with e|hx
   .subst e;exact fT ok (by rw[<-hq.1];exact hq.2.1)
   .exact ih x hx
 exact all r x hx
def zN (ok:c4 P w H h)(e:H a=some (.dT kvs)):kvs.length<=bn/\(a ==sysModules)=false/\
  ∃ xs,KT H kvs xs/\h.DictOfH (tupleKind (aw P w)) a xs:=jx ok (.inl e)
end
abbrev lA (H:Hp)(a:Addr)(y:V)(r:Option V):Prop:=
 (∃ kvs k,Rd H a (.dK kvs)/\y=kV k/\r=aX kvs k)\/∃ kvs k b,Rd H a (.dT kvs)/\y=.ref b/\H b=some (.tup (k.map kV))/\r=aX kvs k
abbrev za (H:Hp)(a:Addr)(y v:V)(H':Hp):Prop:=
 (∃ kvs k,H a=some (.dK kvs)/\y=kV k/\kvs.length<bn/\H'=upd H a (.dK (putK kvs k v)))\/
 ∃ kvs k b,H a=some (.dT kvs)/\y=.ref b/\H b=some (.tup (k.map kV))/\kvs.length<bn/\H'=upd H a (.dT (putK kvs k v))
variable {Q:CC}
section
variable {X:Cx}{Y:CD}{U:St}{H:Hp}{s:Shared}{a:Addr}{y v:V}{u r:Value}{o:Option V}{A:Around}{E:CC}
def Inv.big (I:Inv X Y U H s):sysModules<s.heap.objs.size:=by
 have h:mainGlobals<s.heap.objs.size:=(I.mod.glob.keeps I.bk).lt;exact Nat.lt_trans (by decide) h
def nR (hu:A.units+1<cLine)(I:Inv X Y U H s)(g:lA H a y (some v))(ry:RelV y u)(h:∀ w' s',Inv X Y U H s'->RelV v w'->Q w' s'):
  wpAny (model X.prog X.w) A (getItem (.ref a) u) Q E s:=by
 rcases g with⟨kvs,k,e,ey,l⟩|⟨kvs,k,b,e,ey,eb,l⟩
 .subst ey;obtain⟨z,hd,vs,rel,dd⟩:=eO I.hok e;obtain⟨w',hw,rw'⟩:=bC.some_of (v:=v) (o:=valueAt vs k) (by rw[l];exact rel.val k);exact wpAny_getItem_of (jj ry) dd.mapOf hw (h w' _ (I.tok _) rw')
 .subst ey;cases(show u=Value.ref b from ry);obtain⟨z,hd,xs,rel,dd⟩:=jx I.hok e;obtain⟨w',hw,rw'⟩:=bC.some_of (v:=v) (o:=(atKey xs k).map (·.2)) (by rw[l];exact rel.val k);obtain⟨p,hp,hp2⟩:=mo.mp hw;refine wpAny_getItem_heap (tupleKind_room_in1 hu) (fT I.hok eb) dd hp ?_;rw[hp2];exact h w' _ (I.tok _) rw'
def AS (hu:A.units+1<cLine)(I:Inv X Y U H s)(g:lA H a y o)(ry:RelV y u)(h:∀ s',Inv X Y U H s'->Q (.bool o.isSome) s'):
  wpAny (model X.prog X.w) A (compareOp .In u (.ref a)) Q E s:=by
 rcases g with⟨kvs,k,e,ey,l⟩|⟨kvs,k,b,e,ey,eb,l⟩
 .subst ey;obtain⟨z,hd,vs,rel,dd⟩:=eO I.hok e;refine wpAny_in_of (jj ry) hd dd.mapOf ?_;rw[<-(rel.val k).bH,<-l];exact h _ (I.tok _)
 .subst ey;cases(show u=Value.ref b from ry);obtain⟨z,hd,xs,rel,dd⟩:=jx I.hok e;refine wpAny_in_heap (tupleKind_room_in1 hu) (fT I.hok eb) hd dd ?_;have q:=(rel.val k).bH;rw[Option.isSome_map]at q;rw[<-q,<-l];exact h _ (I.tok _)
def tQ (hu:A.units+1<cLine)(I:Inv X Y U H s)(g:lA H a y o)(ry:RelV y u)(h:∀ s',Inv X Y U H s'->Q (.bool (!o.isSome)) s'):
  wpAny (model X.prog X.w) A (compareOp .NotIn u (.ref a)) Q E s:=by
 rcases g with⟨kvs,k,e,ey,l⟩|⟨kvs,k,b,e,ey,eb,l⟩
 .subst ey;obtain⟨z,hd,vs,rel,dd⟩:=eO I.hok e;refine wpAny_notIn_of (jj ry) hd dd.mapOf ?_;rw[<-(rel.val k).bH,<-l];exact h _ (I.tok _)
 .subst ey;cases(show u=Value.ref b from ry);obtain⟨z,hd,xs,rel,dd⟩:=jx I.hok e;refine wpAny_notIn_heap (tupleKind_room_in1 hu) (fT I.hok eb) hd dd ?_;have q:=(rel.val k).bH;rw[Option.isSome_map]at q;rw[<-q,<-l];exact h _ (I.tok _)
def lY {h':Heap}{t':Nat}{ob:HO}(I:Inv X Y U H s)(mu:zK (H a))(hs:Heap.SameBut a s.heap h')(he:∃ q,h'.get? a=some q) (new:aj X.prog X.w (upd H a ob) h' a ob):
  Inv X Y U (upd H a ob) { s with heap:=h',toks:=t' }:=
 I.write (x:=a) (e:=a) mu (.inl rfl) (λb q hb z=>(hs.2 b hb).trans z) he new
def xb {h':Heap}{kvs:List (Key×V)}{vs:List (Key×Value)}(z:kvs.length<=bn)(hd:(a ==sysModules)=false)(rel:KV kvs vs)(dd:h'.DictOf (aw P w) a vs):
  aj P w H' h' a (.dK kvs):=⟨z,hd,vs,rel,dd⟩
def nV {Q:CB}(hu:A.units+1<cLine)(I:Inv X Y U H s)(g:za H a y v H')(ry:RelV y u)(rv:RelV v r)(h:∀ s',Inv X Y U H' s'->Q () s'):
  wpAny (model X.prog X.w) A (setItem (.ref a) u r) Q E s:=by
 rcases g with⟨kvs,k,e,ey,l,eH⟩|⟨kvs,k,b,e,ey,eb,l,eH⟩
 .subst ey eH;obtain⟨z,hd,vs,rel,dd⟩:=Ak I.hok e;have hz:vs.length<=bn:=by rw[<-rel.length];exact z
  have hl:(putK kvs k v).length<=bn:=by have:=e9 kvs k v;omega
  refine wpAny_setItem_pairs (hsz:=hz) (jj ry) dd λh' dd' hs=>h _ ?_
  have he:∃ q,h'.get? a=some q:=let⟨q,_,_,hq,_⟩:=dd';⟨q,hq⟩;exact lY I (by rw[e];exact True.intro) hs he (xb hl hd (rel.put k rv) dd')
 .subst ey eH;cases(show u=Value.ref b from ry);obtain⟨z,hd,xs,rel,dd⟩:=zN I.hok e;have hz:xs.length<=bn:=by rw[<-Paired.length rel];exact z
  have hl:(putK kvs k v).length<=bn:=by have:=e9 kvs k v;omega
  refine wpAny_setItem_heap (hsz:=hz) (tupleKind_room_in1 hu) (fT I.hok eb) dd λh' dd' hs=>h _ ?_
  obtain⟨q,es,ep,hq,h2,h3,h4,_,h5⟩:=dd';refine lY I (by rw[e];exact True.intro) hs ⟨q,hq⟩ ⟨hl,hd,_,(rel.put k eb rv).keeps λc ys ec=>?_,q,es,ep,hq,h2,h3,h4,h5⟩;rw[af (zm ec e (λz=>nomatch z))];exact ec
end
section
variable {X:Cx}{Y:CD}{U:St}{H:Hp}{s:Shared}{a:Addr}{kvs:List (Key×V)}{k:Key}{u:Value}{A:Around}{E:CC}
end
def kc {X:Cx}{a:Addr}(I:Inv X Y U H s)(g:lA H a y o):s.TypeIs (.ref a) "dict":=by
 rcases g with⟨kvs,k,e,_,_⟩|⟨kvs,k,b,e,_,_,_⟩
 .obtain⟨_,_,vs,_,dd⟩:=eO I.hok e;exact dd.typeIs
 .obtain⟨_,_,xs,_,dd⟩:=jx I.hok e;exact dd.typeIs
section
variable {X:Cx}{o i e value:Expr}{pos pos' tpos:Pos}{td ty tv:TE}
end
def oO (h:Heap)(hb:sysModules<h.objs.size):aj P w H (h.push { cls:=.type "dict",data:=.dict #[] }) h.objs.size (.dK []):=
 ⟨Nat.zero_le _,beq_eq_false_iff_ne.mpr (Ne.symm (nw hb)),[],.nil,Heap.DictOf.new h⟩
abbrev xU:TE:=λ_ H Q=>∀ p,H p=none->Q (.ref p) (upd H p (.dK []))
section
variable {X:Cx}{pos:Pos}
def rp:PE X (.Dict [] [] pos) xU:=λY s U H Q I h=>
 wpAny_Dict_empty ⟨.ref s.heap.objs.size,_,I.laid (a:=s.heap.objs.size) (o:=.dK []) (t':=s.toks) (λ_ _ q=>sn _ q) (ol _) (oO s.heap I.big),rfl,h _ (I.hok.fresh (ol _))⟩
end
section
variable {X:Cx}{Y:CD}{U:St}{H:Hp}{s:Shared}{a:Addr}{y d:V}{u r:Value}{o:Option V}{A:Around}{E:CC}
end
section
variable {X:Cx}{o e f:Expr}{apos cpos:Pos}{td ty tx:TE}
end
section
variable {X:Cx}{Y:CD}{U:St}{H:Hp}{s:Shared}{a:Addr}{kvs:List (Key×V)}{A:Around}{E:CC}
end
section
variable {X:Cx}{Y:CD}{U:St}{H:Hp}{s:Shared}{a:Addr}{y:V}{u:Value}{A:Around}{E:CC}
end
end L2
namespace Att
open PySem PySem.W PySem.Calls PyProof.Rows
variable {P:Params}
def ff {h:Heap}:∀ (ns:List Int) (vs:List Value),WellAll P h vs (ns.map WData.int)->IntsAre vs ns:=by
 intro ns
 induction ns with
 |nil=>
  intro vs w;rw[List.map_nil]at w;cases w;exact .nil
 |cons n ns ih=>
  intro vs w;rw[map_cons]at w;cases w with
  |cons a b=>
   cases a;exact .cons _ _ (ih _ b)
variable {l:OpenLaw}
def nY {n:Nat}(hn:l.most=some n){h:Heap}{args:List WData}{vals:List Value}
  (hpre:l.row.toRowW.claim.pre args=true) (hwl:WellAll P h vals args):
  ∃ a vs ns,vals=[Value.ref a]/\args=[WData.list (ns.map WData.int)]/\h.get? a=some { cls:=.type "list",data:=.seq vs.toArray }/\IntsAre vs ns/\ns.length<=n:=by
 have hsh:WShape.hasAll [] args [.list .int]=true:=(pre_splitW hpre).1;have hc:l.pre.holds [] { args:=args }=true:=(pre_splitW hpre).2;obtain⟨d,r,rfl,h1,h2⟩:=hasAllW_cons hsh;obtain rfl:=hasAllW_nil h2;obtain⟨xs,rfl,h3⟩:=hasW_list h1;obtain⟨ns,rfl⟩:=items_int h3;have hlen:ns.length<=n:=by
  unfold OpenLaw.pre at hc;have h4:(WTm.not (.lt (.lit (.int (n:Int))) (.len (.arg 0)))).holds [] { args:=[.list (ns.map .int)] }=true:=by
   have h4:=(holds_andW hc).1;rw[hn]at h4;exact h4
  have h5:=condW_of h4 (w_not (w_lt w_lit (w_len_list (w_arg rfl))));rw[ce]at h5;refine Nat.le_of_not_lt λq=>?_
  have q':(n:Int)<((ns.length:Nat):Int):=by omega
  first
   |(rw[decide_eq_true q']at h5;exact absurd h5 (by decide))
   |(simp at h5;omega)
 cases hwl with
 |cons w1 w2=>
  cases w2;cases w1 with
  |list ho hall=>exact⟨_,_,ns,rfl,rfl,ho,ff ns _ hall,hlen⟩
def oq (l:OpenLaw)(args:List WData):l.row.toRowW.claim.post args (.bool true) args=true:=
 postW_of (r:=l.row.toRowW) (X:=(true ==true))
  (show WShape.has [] (.bool true) .bool=true by first|rfl|decide|simp[WShape.has,WShape.arms,WShape.armsAll])
  (show(WTm.eq .res (.lit (.bool true))).value [] { args:=args,res:=some (.bool true),after:=args }=some (.bool (true ==true)) from w_eq_bool (w_res rfl) w_lit) rfl
def jX {n:Nat}{q:Program}{loose:List Str}{XP:(Str->Option Value)->Heap->Prop}{YP:World->Heap->Prop}{d:DefRec}
  (hn:l.most=some n) (hdf:d.params.defaults=[])
  (call:∀ (w:World) (s₀ s₁:Shared) (mg mb:CF) (fa:Addr) (o:Obj) (pm cd doc:Value) (a:Addr) (vs:List Value) (ns:List Int),
   Ground q loose [] XP w s₀ mg mb s₁.heap->YP w s₁.heap->
   s₁.heap.get? fa=some o->o.data=.func (docDef d.name d.params d.body d.scope pm cd doc)->s₁.heap.CodeRec cd d.name->mg d.name=some (.ref fa)->
   s₁.heap.get? a=some { cls:=.type "list",data:=.seq vs.toArray }->IntsAre vs ns->ns.length<=n->s₁.gens=#[]->
   codeAny (model l.prog w) callerA (.call (.ref fa) ⟨[.ref a],[]⟩) (λr s'=>r=.ok (.ret (.bool true))/\OldK s₁.heap s'.heap/\s'.os=s₁.os/\AllBare s'.gens) s₁):
  WalkO q loose XP YP l.row.toRowW d [] (λf vs=>PySem.call f vs):=by
 intro w s₀ s₁ mg mb G Y fa o pm cd doc dV kV ho hd hcd hD hmg hg args vals as hpre hlay hrd hwl hlo;obtain rfl:dV=.none:=Dflts.none hD hdf;obtain rfl:kV=.none:=Dflts.noKw hD;obtain⟨a,vs,ns,rfl,rfl,hobj,hints,hlen⟩:=nY hn hpre hwl;refine enter_call (codeAny_mono (call w s₀ s₁ mg mb fa o pm cd doc a vs ns G Y ho (fd_plain hd) hcd hmg hobj hints hlen hg) λr s' hq=>?_);obtain⟨rfl,h2,h3,h4⟩:=hq;exact⟨.inl ⟨.bool true,.bool true,[],rfl,λ_=>rfl,.bool true,oq l _,λ_=>⟨List.Pairwise.nil,λ_ hm=>(nomatch hm)⟩⟩,h2,h3,h4⟩
section
variable {prog:Program}{w:World}{A:Around}{E:CC}{s:Shared}{K:Frag}
end
end Att
namespace L2
open PySem PySem.Spec PyProof.Rows
def hJ:∀ {vs:List Value}{ns:List Int},IntsAre vs ns->Vals (ns.map V.int) vs
 |_,_,.nil=>.nil
 |_,_,.cons n t h=>.cons ⟨t,rfl⟩ (hJ h)
abbrev wK (H:Hp):Prop:=∀ b,H b=none\/∃ o xs,H b=some (.aP o (.lst xs))
def pD {P:Program}{w:World}{K:W.Frag}{mg mb:CF}{CX:mN}{k:Nat}{fa a:Addr}{fd:FuncData}{x:Str}{sp:Sp}{s₁:Shared}{vs:List Value}{ns:List Int}
  (KX:K.In s₁.heap) (hns:s₁.heap.Ns mainGlobals mg) (hb:s₁.heap.Ns builtinsNs mb) (hbb:∀ x:Str,x≠"__name__"->mb x=bootBuiltins x) (hlim:s₁.heap.NoLimit) (hg:s₁.gens=#[])
  (ha:s₁.heap.get? a=some { cls:=.type "list",data:=.seq vs.toArray }) (hi:IntsAre vs ns) (hl:ns.length<=bn) (hr:aS k callerA)
  (F:∀ base:Heap,K.In base->base.Ns mainGlobals mg->bI P w K mg base CX k fa fd [x] sp) (hbind:∀ (s:Shared) (u:Value),BindsTo s fd ⟨[u],[]⟩ [(x,u)])
  (hsp:∀ H:Hp,wK H->aA K H a (ns.map V.int)->sp [.ref a] H (λv _=>v=.bl true) λ_ _=>False)
  (hCX:∀ H e s',CX [] H s₁ (λ_ _=>False) e s'->False):
  codeAny (model P w) callerA (.call (.ref fa) ⟨[.ref a],[]⟩) (λr s'=>r=.ok (.ret (.bool true))/\OldK s₁.heap s'.heap/\s'.os=s₁.os/\AllBare s'.gens) s₁:=by
 have rv:=hJ hi;have lenV:=hi.length;have core:∀ H:Hp,wK H->aA K H a (ns.map V.int)->c4 P w H s₁.heap->(∀ b,H b≠none->b=a)->(H a≠none->K.lookup a=none)->
   codeAny (model P w) callerA (.call (.ref fa) ⟨[.ref a],[]⟩) (λr s'=>r=.ok (.ret (.bool true))/\OldK s₁.heap s'.heap/\s'.os=s₁.os/\AllBare s'.gens) s₁:=by
  intro H hO hS hok hA hK;have base_of:∀ {b:Addr}{o:Obj},s₁.heap.get? b=some o->H b=none->(iI s₁.heap H).get? b=some o:=λe n=>o9 e n
  have noA:∀ {b:Addr}{o:Obj}{es:Array DictEntry}{ep:Nat},s₁.heap.get? b=some o->o.data=.dict es ep->H b=none:=λ{b o es ep} e d=>by
   cases q:H b with
   |none=>rfl
   |some u=>
    have e':b=a:=hA b (by rw[q];simp);subst e';rw[ha]at e;cases e;have d':Data.seq vs.toArray _=Data.dict es ep:=d;cases d'
  have nsK:∀ {b:Addr}{m:CF},s₁.heap.Ns b m->(iI s₁.heap H).Ns b m:=λ{b m} ⟨o,es,ep,e,d,r⟩=>⟨o,es,ep,base_of e (noA e d),d,r⟩
  have hKb:K.In (iI s₁.heap H):=λb o e=>base_of (KX b o e) (by
   cases q:H b with
   |none=>rfl
   |some u=>
    have e':b=a:=hA b (by rw[q];simp);subst e';rw[hK (by rw[q];simp)]at e;cases e)
  have hM:Mod K mg (iI s₁.heap H):=⟨hKb,nsK hns,⟨mb,nsK hb,hbb⟩,let⟨mc,h1,h2⟩:=hlim;⟨mc,nsK h1,h2⟩⟩;have e0:lB P w K mg (iI s₁.heap H) callerA [] s₁ H:=⟨rfl,hM,λb o e=>tB e,Nat.le_of_eq (nr _ _),trivial,λb hb=>absurd (show b ∈ ([]:List Addr) from hb) (by simp),hok,.of_eq hg⟩;refine codeAny_mono ((F _ hKb (nsK hns)).run callerA [] s₁ H ⟨[.ref a],[]⟩ [.ref a] [.ref a] _ _ hr e0 (hbind s₁ (.ref a)) (.cons rfl .nil) (hsp H hO hS)) λr s' h=>?_
  cases r with
  |error e=>exact(hCX H e s' h).elim
  |ok fl=>
   cases fl with
   |next=>exact False.elim h
   |brk=>exact False.elim h
   |cont=>exact False.elim h
   |ret u=>
    obtain⟨v,H',os,bare,un,hok',r',q⟩:=h;have q':v=.bl true:=q;subst q';obtain rfl:u=Value.bool true:=r';refine⟨rfl,OldK.of_keep λb o e=>?_,os,bare⟩;cases q:H b with
    |none=>exact un.keep b o e q (by intro z;exact absurd (show b ∈ ([]:List Addr) from z) (by simp)) (by simp)
    |some u=>
     rcases hO b with z|⟨ob,xs,z⟩
     .rw[q]at z;cases z
     .have z2:=un.frzs b ob _ z;obtain⟨e1,_⟩:=hok b _ z;obtain⟨e2,_⟩:=hok' b _ z2;rw[e]at e1;cases e1;exact e2
 cases hk:K.lookup a with
 |some o=>
  have e:=KX a o hk;rw[ha]at e;cases e;refine core (λ_=>none) (λ_=>.inl rfl) (.inr ⟨_,vs.toArray,_,hk,rfl,rfl,rfl,by rw[ge,lenV];exact hl,by simpa using rv⟩) (λb u z=>by have z':(none:Option HO)=some u:=z;cases z') (λb z=>absurd rfl z) λz=>absurd rfl z
 |none=>
  refine core (λb=>if b=a then some (.aP { cls:=.type "list",data:=.seq vs.toArray } (.lst (ns.map V.int))) else none) (λb=>?_) (.inl (.inr ⟨{ cls:=.type "list",data:=.seq vs.toArray },if_pos rfl⟩)) (λb u z=>?_) (λb z=>?_) λ_=>hk
  .by_cases hb:b=a
   .exact .inr ⟨_,_,if_pos hb⟩
   .exact .inl (if_neg hb)
  .by_cases hb:b=a
   .have z':=(if_pos hb).symm.trans z;cases z';subst hb;exact⟨ha,by rw[ce];exact hl,vs,_,rv,ha⟩
   .have z':=(if_neg hb).symm.trans z;cases z'
  .by_cases hb:b=a
   .exact hb
   .exact absurd (if_neg hb) z
def sG {l:W.OpenLaw}{n k:Nat}{q:Program}{loose:List Str}{XP:(Str->Option Value)->Heap->Prop}{YP:World->Heap->Prop}{d:DefRec}{K:Params->W.Frag}{CX:World->mN}{sp:World->Sp}{x:Str}
  (hn:l.most=some n) (hn2:n<=bn) (hdf:d.params.defaults=[]) (hr:aS k callerA)
  (hY:∀ (w:World) (h:Heap),YP w h->(K w.params).In h)
  (F:∀ (w:World) (mg:CF) (fa:Addr) (h:Heap),(K w.params).In h->h.Ns mainGlobals mg->mg d.name=some (.ref fa)->
   ∃ fd:FuncData,(∀ (s:Shared) (u:Value),BindsTo s fd ⟨[u],[]⟩ [(x,u)])/\
    ∀ base:Heap,(K w.params).In base->base.Ns mainGlobals mg->bI l.prog w (K w.params) mg base (CX w) k fa fd [x] (sp w))
  (hsp:∀ (w:World) (H:Hp) (a:Addr) (ns:List Int),ns.length<=n->wK H->aA (K w.params) H a (ns.map V.int)->sp w [.ref a] H (λv _=>v=.bl true) λ_ _=>False)
  (hCX:∀ (w:World) (H:Hp) (s:Shared) (e:Value) (s':Shared),CX w [] H s (λ_ _=>False) e s'->False):
  W.WalkO q loose XP YP l.row.toRowW d [] (λf vs=>PySem.call f vs):=by
 refine Att.jX hn hdf λw s₀ s₁ mg mb fa o pm cd doc a vs ns G Y ho hd hcd hmg hobj hints hlen hg=>?_
 have KX:=hY w _ Y;obtain⟨fd,hb,hF⟩:=F w mg fa _ KX G.T.g hmg;exact pD KX G.T.g G.T.b G.T.builtins G.T.nolimit hg hobj hints (Nat.le_trans hlen hn2) hr hF hb (λH hO hS=>hsp w H a ns hlen hO hS) λH e s'=>hCX w H s₁ e s'
section
variable {P:Program}{w:World}{K:W.Frag}{mg:CF}{base:Heap}
end
def bK {n:Nat}(h:n<=1000):n<bn:=Nat.lt_of_le_of_lt h (by decide)
section
variable {X:Cx}
end
end L2
namespace L2
open PySem PySem.Spec PySem.W PyProof.Rows PySem.Builtin PySem.Builtin.ObjectAttr
variable {rs:List Addr}
section
variable {prog:Program}{w:World}{A:Around}{E:CC}{s:Shared}{K:W.Frag}{x C:Addr}{ox od:Obj}{name:Str}{expr:Bool}{v:Value}{Q:CC}
def jE:builtinKind "BaseException.__getattribute__"=some .slot:=by decide+kernel
def gE:splitId "BaseException.__getattribute__"=some ("BaseException","__getattribute__"):=by decide+kernel
def uC (X:K.In s.heap)(I:W.InstAt s.heap x ox C (some od))(hga:W.findIn K (.ref C) "__getattribute__"=some (some (.builtin "BaseException.__getattribute__"))) (hgn:W.findIn K (.ref C) "__getattr__"=some none)
  (hb:W.mroIn K C (.type "BaseException")=some true) (hf:W.findObj K C (some od) name=some (.value v)) (hh:W.handedIn v=true) (h:Q v { s with toks:=s.toks+1 }):
  wpAny (model prog w) A (getAttr (.ref x) name expr) Q E s:=by
 obtain⟨hp,g,d,t,os⟩:=s;have L0:=I.type (M:=model prog w);have L1:=looks_findIn (M:=model prog w) X hga;have L2':=looks_findIn (M:=model prog w) X hgn;have L3:=looks_find (M:=model prog w) X I hf;have L4:Looks (model prog w) hp (isInstance (.ref x) (.type "BaseException")) true:=I.type.andThen (looks_mroIn X hb);unfold getAttr getAttrBy;refine ad (wpAny_mkText (bd (ad (L0.at (ad (L1.at ?_))))));have e1:(Value.builtin "BaseException.__getattribute__" ==Value.builtin "object.__getattribute__")=false:=by decide+kernel
 dsimp only;rw[e1,Bool.and_false];show wpAny _ _ (getAttrByItsOwn _ _ _ _ _ _) _ _ _;unfold getAttrByItsOwn hookBefore;refine ad (L2'.at ?_);refine ad (wpAny_attempt (bd ?_));have e2:(expr&&onTheHeap (Value.builtin "BaseException.__getattribute__"))=false:=by cases expr<;>rfl
 unfold callGetattribute;rw[e2];show wpAny _ _ (boundAndCalled _ _ _) _ _ _;unfold boundAndCalled;rw[PySem.F.attr_ValueError.ga.bind];refine ad (am (wpAny_call (codeAny_call_builtin PySem.F.attr_ValueError.ga.plain PySem.F.entry_bexc_ga ?_)));refine @check_slot (model prog w) _ _ _ "BaseException.__getattribute__" "BaseException" "__getattribute__" (.ref x) [.str name t] [] _ jE gE L4 (PySem.F.args_bexc_ga (.ref x) (.str name t)) ?_;unfold Builtin.«object.__getattribute__»;refine ad (am (ad (am (ad (L0.at (ad (L3.at ?_)))))));refine am ?_;show wpAny _ _ (handedOut v) _ _ _;rw[handedOut_of hh];exact am h
abbrev pP:Value->Bool
 | .ref _=>true
 |_=>false
abbrev aU:List Value:=[.type "ValueError",.type "Exception",.type "BaseException",.type "object"]
abbrev bR (l:List Value):Bool:=l.dropWhile pP ==aU
def bV:∀ {l:List Value},bR l=true->∃ rs:List Addr,l=rs.map Value.ref++aU
 | [],e=>by cases e
 |c::r,e=>by
  by_cases h:pP c=true
  .have e':bR r=true:=by
    unfold bR at e⊢;rw[List.dropWhile_cons_of_pos h]at e;exact e
   obtain⟨rs,q⟩:=bV e';cases c with
   |ref a=>exact⟨a::rs,by rw[q];rfl⟩
   |_=>cases h
  .unfold bR at e;rw[List.dropWhile_cons_of_neg h]at e;exact⟨[],beq_iff_eq.mp e⟩
def fM (self:Value):∀ rs:List Addr,refuseLoop self "__setattr__" (rs.map Value.ref++aU)=pure ()
 | []=>PySem.F.store_ValueError.passes self
 |a::r=>by rw[map_cons,cons_append,refuseLoop_ref];exact fM self r
structure bj (K:W.Frag) (C:Addr):Prop where
 mt:W.typeIn K (.ref C)=some (.type "type")
 ov:(W.clsIn K C).any (λcd=>bR cd.mro)=true
 hd:W.hasDictIn K C=true
 ga:W.findIn K (.ref C) "__getattribute__"=some (some (.builtin "BaseException.__getattribute__"))
 gn:W.findIn K (.ref C) "__getattr__"=some none
 sa:W.findIn K (.ref C) "__setattr__"=some (some (.builtin "object.__setattr__"))
def bj.mro (c:bj K C):∃ (cd:ClassData) (rs:List Addr),W.clsIn K C=some cd/\cd.mro=rs.map Value.ref++aU:=by
 obtain⟨cd,h1,h2⟩:=W.any_some c.ov;obtain⟨rs,h3⟩:=bV h2;exact⟨cd,rs,h1,h3⟩
def j8 (h:aU.contains v=true):(rs.map Value.ref++aU).contains v=true:=by
 rw[List.contains_eq_mem,decide_eq_true_eq]at h⊢;exact ii _ h
def lS:(rs.map Value.ref++aU).isEmpty=false:=by cases rs<;>rfl
def bj.sub (c:bj K C)(h:aU.contains v=true):W.mroIn K C v=some true:=by
 obtain⟨cd,rs,h1,h2⟩:=c.mro;unfold W.mroIn;rw[h1,Option.bind_some,h2,if_neg (by rw[lS];decide),j8 h]
variable {R:Result->Shared->Prop}
def jt {tk:Tok}{odo:Option Obj}(X:K.In s.heap)(I:W.InstAt s.heap x ox C odo)(c:bj K C)(ht:W.findIn K (.ref C) name=some none)
  (h:wpAny (model prog w) A.in1 (storeInOwnDict (.ref x) (.ref C) (.str name tk) name v false)
   (λfin s'=>match fin with| .done f=>R (.ok f) s'| .again c'=>c'.quiet=true/\codeAny (model prog w) A c' R s') (λe s'=>R (.error e) s') s):
  codeAny (model prog w) A (.call (.builtin "object.__setattr__") ⟨[.ref x,.str name tk,v],[]⟩) R s:=by
 have SF:=PySem.F.store_object;obtain⟨cd,rs,hc,hm⟩:=c.mro;have sub:Looks (model prog w) s.heap (isInstance (.ref x) (.type "object")) true:=I.type.andThen (looks_mroIn X (c.sub (by decide+kernel)));refine codeAny_call_builtin SF.slot.plain SF.entry (@check_slot (model prog w) _ _ s "object.__setattr__" "object" "__setattr__" (.ref x) [.str name tk,v] [] _ SF.kind SF.split sub (SF.args (.ref x) (.str name tk) v) ?_);have hl:Looks (model prog w) s.heap (mroOf (.ref C)) cd.mro:=(looks_clsIn X hc).andThen .now;rw[osa_eq,refuse_eq];refine ad (ad (I.type.here (ad (hl.here ?_))));rw[hm,fM];refine am (ad (I.type.here (ad ((looks_findIn X ht).here (ad (am ?_))))));exact h
end
variable {Q:CC}{u:Value}
section
variable {X:Cx}{Y:CD}{U:St}{H:Hp}{s:Shared}{a C dx:Addr}{fs:List (Str×V)}{f:Str}{v:V}{A:Around}{E:CC}{fr:Bool}
def nv {b:Bool}(I:Inv X Y U H s)(e:H a=some (.exc C (some dx) fs fr))(c:bj X.K C)(n:cB X.K C f)(l:fs.lookup f=some v)
  (h:∀ u s',Inv X Y U H s'->RelV v u->Q u s'):wpAny (model X.prog X.w) A (getAttr (.ref a) f b) Q E s:=by
 obtain⟨⟨vs,ho,_⟩,z⟩:=I.hok a _ e;rcases z with⟨z,_⟩|⟨d,ed,_,_,_,mA,hn,r,_⟩
 .cases z
 cases ed;obtain⟨u,hu,ru⟩:=bC.some_of (v:=v) (o:=mA f) (by rw[<-l];exact r f);obtain⟨od,hod,hl⟩:=ef hn;refine uC (ox:={ cls:=.ref C,dict:=some dx,data:=.fields vs }) (od:=od) I.aT ⟨ho,rfl,rfl,hod⟩ c.ga c.gn (c.sub (by decide+kernel)) (W.findObj_own c.hd n rfl (by rw[hl,hu])) (gP ru) (h u _ (I.tok _) ru)
def lb {y:V}{Q:CB}(I:Inv X Y U H s)(e:H a=some (.exc C (some dx) fs fr))(c:bj X.K C)(n:cB X.K C f)(hl:fs.length<1000)(ry:RelV y u)
  (h:∀ s',Inv X Y U (upd H a (.exc C (some dx) (bB f y fs) fr)) s'->Q () s'):wpAny (model X.prog X.w) A (setAttr (.ref a) f u) Q E s:=by
 obtain⟨⟨vs,ho,zz⟩,z⟩:=id (I.hok a _ e);rcases z with⟨z,_⟩|⟨d,ed,hown,_,hne,mA,hn,r,wi⟩
 .cases z
 cases ed;obtain⟨od,hod,hlk⟩:=ef hn;have hz:(fs.map (·.1)).length<=bn:=by rw[ce,sizeLine_eq];omega
 have J:W.InstAt s.heap a { cls:=.ref C,dict:=some dx,data:=.fields vs } C (some od):=⟨ho,rfl,rfl,hod⟩;refine W.set_plain I.aT J c.sa (jt (s:={ s with toks:=s.toks+1 }) I.aT J c n ?_);obtain⟨cd,hc,hd'⟩:=W.any_some c.hd;refine ad (am (ad (ad (wpAny_loadPart ho (ad (W.Looks.here (s:={ s with toks:=s.toks+1 }) (W.looks_clsIn I.aT hc) ?_))))));rw[hd'];refine am (a:=some dx) (ad (am (ad ?_)));refine wpAny_nsSet1 (s:={ s with toks:=s.toks+1 }) hn λh' hn2 hs2=>?_
 obtain⟨oD,esD,epD,hoD,hdD,hcD⟩:=hn2.count (PySem.Within.cons f u wi);refine ad (wpAny_lookBehind hoD (by rw[hdD];exact pastItsLine_dict (Nat.le_trans hcD (by rw[length_cons];omega))) ?_);refine am (h _ ?_);refine I.write (x:=a) (e:=dx) (by rw[e];exact True.intro) (.inr hown) (λb q hb z=>(hs2.2 b hb).trans z) ⟨oD,hoD⟩ ?_;refine⟨⟨vs,(hs2.2 _ (Ne.symm hne)).trans ho,zz⟩,.inr ⟨dx,rfl,by rw[af hne];exact hown,?_,hne,_,hn2,λg=>?_,λg hg=>?_⟩⟩
 .have:=cz f y fs;omega
 .show bC ((bB f y fs).lookup g) (if g=f then some u else mA g);rw[ck]
  by_cases q:g=f
  .rw[if_pos q,if_pos q];exact ry
  .rw[if_neg q,if_neg q];exact r g
 .by_cases q:g=f
  .rw[q];exact(bM f y fs).1
  .refine(bM f y fs).2 g (wi g λz=>hg ?_);show(if g=f then some u else mA g)=none;rw[if_neg q];exact z
def lJ {y:V}{Q:CB}(I:Inv X Y U H s)(e:H a=some (.exc C none fs fr))(c:bj X.K C)(n:cB X.K C f)(ry:RelV y u)
  (h:∀ d s',H d=none->Inv X Y U (upd (upd H d (.own a)) a (.exc C (some d) [(f,y)] fr)) s'->Q () s'):wpAny (model X.prog X.w) A (setAttr (.ref a) f u) Q E s:=by
 obtain⟨⟨vs,ho,zz⟩,z⟩:=id (I.hok a _ e);have hfs:fs=[]:=by
  rcases z with⟨_,z⟩|⟨d,ed,_⟩
  .exact z
  .cases ed
 subst hfs;have J:W.InstAt s.heap a { cls:=.ref C,dict:=none,data:=.fields vs } C none:=⟨ho,rfl,rfl,True.intro⟩;refine W.set_plain I.aT J c.sa (jt (s:={ s with toks:=s.toks+1 }) I.aT J c n ?_);obtain⟨cd,hc,hd'⟩:=W.any_some c.hd;refine ad (am (ad (ad (wpAny_loadPart ho (ad (W.Looks.here (s:={ s with toks:=s.toks+1 }) (W.looks_clsIn I.aT hc) ?_))))));rw[hd'];have hlt:=ss ho;have hxs:a≠s.heap.objs.size:=nw hlt;have ho1:(s.heap.push { cls:=.type "dict",data:=.dict #[] }).get? a=some { cls:=.ref C,dict:=none,data:=.fields vs }:=sn _ ho;refine ad (wpAny_alloc' ?_);refine ad (wpAny_update' ho1 ?_);refine am ?_;have hgd:((s.heap.push { cls:=.type "dict",data:=.dict #[] }).update a λo=>{ o with dict:=some s.heap.objs.size }).get? s.heap.objs.size=some { cls:=.type "dict",data:=.dict #[] }:=
  (Heap.get?_update_ne _ _ _ _ hxs.symm).trans (Heap.get?_push_at rfl rfl)
 have hga:((s.heap.push { cls:=.type "dict",data:=.dict #[] }).update a λo=>{ o with dict:=some s.heap.objs.size }).get? a=some { cls:=.ref C,dict:=some s.heap.objs.size,data:=.fields vs }:=
  Heap.get?_update_self _ ho1 rfl
 have hnd:((s.heap.push { cls:=.type "dict",data:=.dict #[] }).update a λo=>{ o with dict:=some s.heap.objs.size }).Ns s.heap.objs.size (λ_=>none):=
  ⟨_,#[],_,hgd,rfl,λe he=>absurd he (by simp),λ_=>rfl⟩
 show wpAny _ _ (storeInDict s.heap.objs.size (.str f _) f u) _ _ _;unfold storeInDict newKeyGuard;refine ad (am (ad (wpAny_nsSet1 (Heap.Ns1.of_empty hnd) λh' hn2 hs2=>?_)));obtain⟨oD,esD,epD,hoD,hdD,hcD⟩:=hn2.count (PySem.Within.cons f u PySem.Within.nil);refine ad (wpAny_lookBehind hoD (by rw[hdD];exact pastItsLine_dict (Nat.le_trans hcD (by rw[length_cons,List.length_nil,sizeLine_eq];omega))) ?_);have hd0:H s.heap.objs.size=none:=I.hok.fresh (ol _);refine am (h s.heap.objs.size _ hd0 ?_);have e':upd H s.heap.objs.size (.own a) a=some (.exc C none [] fr):=by rw[af hxs];exact e
 have I1:Inv X Y U (upd H s.heap.objs.size (.own a)) { s with heap:=s.heap.push { cls:=.type "dict",data:=.dict #[] },toks:=s.toks+1 }:=
  I.laid (a:=s.heap.objs.size) (o:=.own a) (t':=s.toks+1) (λb u q=>sn _ q) (ol _) ⟨_,sw s.heap rfl⟩
 have I2:=I1.write (x:=a) (e:=a) (o:=.exc C (some s.heap.objs.size) [] fr) (t':=s.toks+1) (h':=(s.heap.push { cls:=.type "dict",data:=.dict #[] }).update a λo=>{ o with dict:=some s.heap.objs.size })
  (by rw[e'];exact True.intro) (.inl rfl) (λb q hb z=>(Heap.get?_update_ne _ _ _ _ hb).trans z) ⟨_,hga⟩
  ⟨⟨vs,hga,zz⟩,.inr ⟨_,rfl,by rw[af hxs.symm,ah],Nat.zero_le _,hxs.symm,_,Heap.Ns1.of_empty hnd,λ_=>True.intro,λy hy=>absurd rfl hy⟩⟩
 have ga':h'.get? a=some { cls:=.ref C,dict:=some s.heap.objs.size,data:=.fields vs }:=(hs2.2 a hxs).trans hga;have I3:=I2.write (x:=a) (e:=s.heap.objs.size) (o:=.exc C (some s.heap.objs.size) [(f,y)] fr) (t':=s.toks+1+1) (h':=h') (by rw[ah];exact True.intro) (.inr (by rw[af hxs.symm,ah]))
  (λb q hb z=>(hs2.2 b hb).trans z) ⟨oD,hoD⟩
  ⟨⟨vs,ga',zz⟩,.inr ⟨_,rfl,by rw[af hxs.symm,af hxs.symm,ah],by show 1<=1000;decide,hxs.symm,_,hn2,λg=>?_,λg hg=>?_⟩⟩
 .rw[tW]at I3;exact I3
 .show bC (List.lookup g [(f,y)]) (if g=f then some u else none)
  by_cases q:g=f
  .have hb:(g ==f)=true:=beq_iff_eq.mpr q;simp only[List.lookup,hb,if_pos q];exact ry
  .have hb:(g ==f)=false:=beq_eq_false_iff_ne.mpr q;simp only[List.lookup,hb,if_neg q];exact True.intro
 .by_cases q:g=f
  .rw[q];simp
  .exact absurd (show(if g=f then some u else none)=none by rw[if_neg q]) hg
end
section
variable {X:Cx}{Y:CD}{U:St}{H:Hp}{s:Shared}{a C:Addr}{dx:Option Addr}{fs:List (Str×V)}{f:Str}{v:V}{A:Around}{E:CC}{fr:Bool}
def Inv.fields {vs':Array Value}{h':Heap}{t':Nat}(I:Inv X Y U H s)(e:H a=some (.exc C dx fs fr))(hs:vs'.size=6)(h1:fr=true->vs'[1]? =some Value.none)
  (ha:h'.get? a=some { cls:=.ref C,dict:=dx,data:=.fields vs' }) (k:∀ b u,b≠a->s.heap.get? b=some u->h'.get? b=some u):Inv X Y U H { s with heap:=h',toks:=t' }:=by
 have I2:=I.write (x:=a) (e:=a) (o:=.exc C dx fs fr) (t':=t') (h':=h') (by rw[e];exact True.intro) (.inl rfl) k ⟨_,ha⟩ ?_
 .have:upd H a (.exc C dx fs fr)=H:=by
   funext b
   by_cases hb:b=a
   .rw[hb,ah,e]
   .rw[af hb]
  rw[this]at I2;exact I2
 .obtain⟨_,z⟩:=id (I.hok a _ e);refine⟨⟨vs',ha,hs,h1⟩,?_⟩;rcases z with z|⟨d,ed,d1,z1,ne,mA,⟨od,es,ep,e2,c⟩,r⟩
  .exact .inl z
  .exact .inr ⟨d,ed,by rw[af ne];exact d1,z1,ne,mA,⟨od,es,ep,k _ _ ne e2,c⟩,r⟩
def fZ {R:Result->Shared->Prop}(I:Inv X Y U H s)(e:H a=some (.exc C dx fs fr))(c:bj X.K C)
  (h:∀ s',Inv X Y U H s'->R (.ok (.ret .none)) s'):codeAny (model X.prog X.w) A (.call (.builtin "ValueError.__init__") ⟨[.ref a,u],[]⟩) R s:=by
 have F:=PySem.F.excCall_ValueError;obtain⟨⟨vs,ho,hsz,h1⟩,z⟩:=id (I.hok a _ e);have L4:Looks (model X.prog X.w) s.heap (isInstance (.ref a) (.type "ValueError")) true:=(show Looks (model X.prog X.w) s.heap (typeOf (.ref a)) (.ref C) from(Looks.ld ho).andThen .now).andThen (looks_mroIn I.aT (c.sub (by decide+kernel)));refine codeAny_call_builtin F.init.plain F.initEntry ?_;simp only[checkBuiltinCall,F.initKind,F.initSplit,F.initRow];refine ad (L4.here ?_);simp only[Bool.not_true,Bool.false_eq_true,if_false];have hshort:("ValueError" != "*")=true:=by decide
 have h0:∃ a0,vs[0]? =some a0:=⟨_,Array.getElem?_eq_getElem nofun⟩;obtain⟨a0,h0⟩:=h0;obtain⟨hp,g,d,t,os⟩:=s;unfold Bind.checkArgs;have hn:Looks (model X.prog X.w) hp (typeOf (.ref a)) (.ref C):=(Looks.ld ho).andThen .now;obtain⟨cd,rs,hcl,_⟩:=c.mro;obtain⟨oc,od,sl,hC⟩:∃ oc od sl,hp.get? C=some ⟨oc,od,.cls cd,sl⟩:=by
  unfold W.clsIn at hcl
  split at hcl
  .rename_i ho';cases hcl;exact⟨_,_,_,I.aT _ _ ho'⟩
  .cases hcl
 repeat(first|with_reducible refine wpAny_load hC ?_|wp_step)
 rw[h0];have ho1:(hp.push { cls:=.type "tuple",data:=.seq #[u] }).get? a=some { cls:=.ref C,dict:=dx,data:=.fields vs }:=sn _ ho;have hq:=Heap.get?_update_self (Obj.mapFields (·.setIfInBounds 0 (.ref hp.objs.size))) ho1 (Obj.isFreed_of_fields (Obj.data_mapFields rfl _));have fin:R (.ok (.ret Value.none)) ⟨(hp.push { cls:=.type "tuple",data:=.seq #[u] }).update a (Obj.mapFields (·.setIfInBounds 0 (.ref hp.objs.size))),g,d,t,os⟩:=by
  refine h _ (I.fields (vs':=vs.setIfInBounds 0 (.ref hp.objs.size)) (t':=t) e (by simpa using hsz) (λz=>?_) hq λb q hb z'=>?_)
  .rw[Array.getElem?_setIfInBounds_ne (by decide)];exact h1 z
  .exact(Heap.get?_update_ne _ _ _ _ hb).trans (sn _ z')
 refine am (ad (wpAny_setField ho1 rfl nofun ?_));cases a0<;>first|exact am (am fin)|exact wpAny_letGo (am fin)
def kG (I:Inv X Y U H s)(e:H a=some (.exc C dx fs fr))(c:bj X.K C)
  (h:∀ s',Inv X Y U H s'->Q .none s'):wpAny (model X.prog X.w) A (call (.builtin "ValueError.__init__") [.ref a,u]) Q E s:=wpAny_call (fZ I e c h)
end
abbrev aY (K:W.Frag)(C:Addr):Bool:=match K.lookup C with
 |some ⟨_,_,.cls cd,sl⟩=>!cd.abstract&& !cd.hasDel&&(sl.toList[4]?).join ==some (.builtin "ValueError.__new__")&&bR cd.mro&&cd.mro.contains (.ref C)&&
   W.specialIn K (.ref C) "__call__" ==some (some (.builtin "type.__call__"))&&W.instIn K (.ref C) (.type "type") ==some true
 |_=>false
structure oE (M:Model) (h:Heap) (C:Addr):Prop where
 obj:∃ oc od cd sl,h.get? C=some ⟨oc,od,.cls cd,sl⟩/\cd.abstract=false/\cd.hasDel=false/\cd.mro.isEmpty=false
 made:W.Looks M h (Bind.madeBy (.ref C)) (some "ValueError.__new__")
 base:W.Looks M h (Bind.staticBase (.ref C)) (.ref C)
 self:W.Looks M h (isSubtype (.ref C) (.ref C)) true
 top:W.Looks M h (isSubtype (.ref C) (.type "ValueError")) true
 no1:W.Looks M h (isSubtype (.ref C) (.type "AttributeError")) false
 no2:W.Looks M h (isSubtype (.ref C) (.type "NameError")) false
 call:W.Looks M h (specialOf (.ref C) "__call__") (some (.builtin "type.__call__"))
 typ:W.Looks M h (isInstance (.ref C) (.type "type")) true
def lM {n:String}(h:aU.contains (.type n)=false):(rs.map Value.ref++aU).contains (.type n)=false:=by
 induction rs with
 |nil=>exact h
 |cons a r ih=>rw[map_cons,cons_append,List.contains_cons,ih];rfl
def gG {K:W.Frag}{M:Model}{h:Heap}(X:K.In h){C:Addr}(e:aY K C=true):oE M h C:=by
 unfold aY at e
 split at e
 .rename_i oc od cd sl ho;simp only[lw,Bool.not_eq_true',beq_iff_eq]at e;obtain⟨⟨⟨⟨⟨⟨e1,e2⟩,e3⟩,e4⟩,e5⟩,e7⟩,e8⟩:=e;obtain⟨rs,em⟩:=bV e4;have hc:W.clsIn K C=some cd:=by unfold W.clsIn;rw[ho]
  have hm:Looks M h (mroOf (.ref C)) cd.mro:=(looks_clsIn X hc).andThen .now;have ne:cd.mro.isEmpty=false:=by rw[em];exact lS
  obtain⟨c,l,hl⟩:∃ c l,cd.mro=c::l:=by
   cases q:cd.mro with
   |nil=>rw[q]at ne;cases ne
   |cons c l=>exact⟨c,l,rfl⟩
  have made:Looks M h (Bind.madeBy (.ref C)) (some "ValueError.__new__"):=by
   intro A Q E s k q;unfold Bind.madeBy;refine ad (hm A _ E s k ?_);rw[hl,forIn_cons];refine ad (ad (ad (ad (wpAny_loadPart (k _ _ (X _ _ ho)) (am ?_)))));dsimp only;rw[<-Array.getElem?_toList,e3];exact am (am (am q))
  have mro:∀ {v b},cd.mro.contains v=b->W.mroIn K C v=some b:=λ{v b} q=>by
   unfold W.mroIn;rw[hc,Option.bind_some,if_neg (by rw[ne];decide),q]
  refine⟨⟨oc,od,cd,sl,X _ _ ho,e1,e2,ne⟩,made,?_,looks_mroIn X (mro e5),looks_mroIn X (mro (by rw[em];exact j8 (by decide+kernel))),looks_mroIn X (mro (by rw[em];exact lM (by decide+kernel))),looks_mroIn X (mro (by rw[em];exact lM (by decide+kernel))),looks_specialIn X e7,looks_instIn X e8⟩;intro A Q E s k q;unfold Bind.staticBase;refine ad (hm A _ E s k ?_);rw[hl,forIn_cons];exact ad (ad (ad (made A _ E s k (am (am (am q))))))
 .cases e
variable {rest:List Value}
section
variable {prog:Program}{w:World}{A:Around}{K:W.Frag}{C:Addr}{R:Result->Shared->Prop}{h:Heap}{g:Array GenState}{d:Drawn}{t:Nat}{os:OsState}
def vj (Y:oE (model prog w) h C)(hz:rest.length<=bn)
  (hq:R (.ok (.ret (.ref (h.objs.size+1)))) ⟨(h.push { cls:=.type "tuple",data:=.seq rest.toArray }).push { cls:=.ref C,data:=.fields #[.ref h.objs.size,.none,.none,.none,.bool false,.none] },g,d,t,os⟩):
  codeAny (model prog w) A (.call (.builtin "ValueError.__new__") ⟨.ref C::rest,[]⟩) R ⟨h,g,d,t,os⟩:=by
 obtain⟨⟨oc,od,cd,sl,hC,e1,e2,e4⟩,made,base,self,top,no1,no2,call,typ⟩:=Y;have F:=PySem.F.excBase_ValueError;have here:Looks (model prog w) h (Bind.madeHere "BaseException.__new__" (.ref C)) ():=base.andThen (made.andThen (Looks.of_pure (by simp only[Option.map_some,F.canon,bne_self_eq_false,Bool.false_eq_true,if_false])));refine codeAny_call_builtin_code (Code.quiet_builtin _ F.quiet) ?_;simp only[checkBuiltinCall,F.newKind,F.newSplit,F.newRow]
 repeat(first|simp only[bne_self_eq_false,Bool.false_eq_true,if_false]|lk)
 refine codeAny_builtinAt F.entry ?_;unfold Builtin.«BaseException.__new__»;refine PySem.wpAt_bind ?_;show PySem.wpAt _ _ _ (stack >>= _) _ _ _;refine PySem.wpAt_bind (PySem.wpAt_stack λp below=>PySem.wpAt_of_wpAny ?_);have hends:=F.ends
 wp_walk
 refine PySem.wpAt_of_wpAny ?_;rw[F.owner]
 repeat(first|simp only[Bool.not_true,Bool.false_eq_true,if_false]|lk)
 rw[if_neg (show ¬ (rest.toArray.size>bn) by rw[ge];omega)];unfold newObjAsIs;refine ad (wpAny_alloc (am (ad ?_)));show wpAny _ _ (newObjAsIs _ _ _) _ _ _;unfold newObjAsIs classHasDel;refine ad (wpAny_alloc (ad (ad (wpAny_load (sn _ (sn _ hC)) (am ?_)))));rw[e2];refine am (am ?_);show R _ _;rw[Heap.size_push];exact hq
def xl {fI:Addr}(X:K.In h)(hz:rest.length<=bn)(hm:aY K C=true)(hi:W.findIn K (.ref C) "__init__"=some (some (.ref fI))) (hf:W.typeIn K (.ref fI)=some (.type "function"))
  (hq:codeAny (model prog w) (A.under (.builtin "type.__call__" ⟨.ref C::rest,[]⟩)) (.call (.ref fI) ⟨.ref (h.objs.size+1)::rest,[]⟩) (InitBack (h.objs.size+1) R)
   ⟨(h.push { cls:=.type "tuple",data:=.seq rest.toArray }).push { cls:=.ref C,data:=.fields #[.ref h.objs.size,.none,.none,.none,.bool false,.none] },g,d,t,os⟩):
  codeAny (model prog w) A (.call (.ref C) ⟨rest,[]⟩) R ⟨h,g,d,t,os⟩:=by
 have Y:=gG (M:=model prog w) X hm;have Y':=Y;obtain⟨⟨oc,od,cd,sl,hC,e1,e2,e4⟩,made,base,self,top,no1,no2,call,typ⟩:=Y;refine codeAny_of_tree ?_;show wpAny _ _ (callAny (.ref C) _) _ _ _;refine nd_load hC ?_;show wpAny _ _ (callAny.viaDunder (.ref C) _) _ _ _;unfold callAny.viaDunder;refine ad (call.at ?_);dsimp only;rw[tc_bind];refine ad (am (ad (am ?_)));refine am (a:=Fin.again (.call (.builtin "type.__call__") ⟨.ref C::rest,[]⟩)) (And.intro rfl ?_);refine codeAny_call_builtin_at (Code.quiet_builtin _ (by decide+kernel)) entry_typeCall (check_slot tc_kind tc_split typ (tc_args _ _ _) ?_);unfold Builtin.«type.__call__»;have hmr:Looks (model prog w) h (mroOf (.ref C)) cd.mro:=((Looks.ld (part:=none) hC).andThen .now).andThen .now
 repeat(first|simp only[e4,Bool.false_eq_true,if_false]|with_reducible refine wpAny_call ?_|lk)
 refine vj Y' hz ?_;have k:∀ b o,h.get? b=some o->((h.push { cls:=.type "tuple",data:=.seq rest.toArray }).push { cls:=.ref C,data:=.fields #[.ref h.objs.size,.none,.none,.none,.bool false,.none] }).get? b=some o:=λb o e=>sn _ (sn _ e)
 have hx:((h.push { cls:=.type "tuple",data:=.seq rest.toArray }).push { cls:=.ref C,data:=.fields #[.ref h.objs.size,.none,.none,.none,.bool false,.none] }).get? (h.objs.size+1)=some { cls:=.ref C,data:=.fields #[.ref h.objs.size,.none,.none,.none,.bool false,.none] }:=by heap_get
 have t1:Looks (model prog w) ((h.push { cls:=.type "tuple",data:=.seq rest.toArray }).push { cls:=.ref C,data:=.fields #[.ref h.objs.size,.none,.none,.none,.bool false,.none] }) (typeOf (.ref (h.objs.size+1))) (.ref C):=(Looks.ld hx).andThen .now;have s1:=self.keeps k;have i1:=(looks_findIn (M:=model prog w) X hi).keeps k;have b1:=(bind_fn (M:=model prog w) X (.ref (h.objs.size+1)) hf).keeps k;unfold isInstance callSpecial? specialOf
 repeat(first|with_reducible refine wpAny_call ?_|lk)
 refine codeAny_mono hq λr s' z=>?_
 rcases r with e|(v|_|_|_)<;>first|exact z|exact z.elim|skip
 obtain⟨rfl,z⟩:=z;exact am (am z)
def um (X:K.In h)(hz:rest.length<=bn)(hm:aY K C=true)(hi:W.findIn K (.ref C) "__init__"=some (some (.builtin "ValueError.__init__")))
  (hq:codeAny (model prog w) (A.under (.builtin "type.__call__" ⟨.ref C::rest,[]⟩)) (.call (.builtin "ValueError.__init__") ⟨.ref (h.objs.size+1)::rest,[]⟩) (InitBack (h.objs.size+1) R)
   ⟨(h.push { cls:=.type "tuple",data:=.seq rest.toArray }).push { cls:=.ref C,data:=.fields #[.ref h.objs.size,.none,.none,.none,.bool false,.none] },g,d,t,os⟩):
  codeAny (model prog w) A (.call (.ref C) ⟨rest,[]⟩) R ⟨h,g,d,t,os⟩:=by
 have Y:=gG (M:=model prog w) X hm;have Y':=Y;obtain⟨⟨oc,od,cd,sl,hC,e1,e2,e4⟩,made,base,self,top,no1,no2,call,typ⟩:=Y;refine codeAny_of_tree ?_;show wpAny _ _ (callAny (.ref C) _) _ _ _;refine nd_load hC ?_;show wpAny _ _ (callAny.viaDunder (.ref C) _) _ _ _;unfold callAny.viaDunder;refine ad (call.at ?_);dsimp only;rw[tc_bind];refine ad (am (ad (am ?_)));refine am (a:=Fin.again (.call (.builtin "type.__call__") ⟨.ref C::rest,[]⟩)) (And.intro rfl ?_);refine codeAny_call_builtin_at (Code.quiet_builtin _ (by decide+kernel)) entry_typeCall (check_slot tc_kind tc_split typ (tc_args _ _ _) ?_);unfold Builtin.«type.__call__»;have hmr:Looks (model prog w) h (mroOf (.ref C)) cd.mro:=((Looks.ld (part:=none) hC).andThen .now).andThen .now
 repeat(first|simp only[e4,Bool.false_eq_true,if_false]|with_reducible refine wpAny_call ?_|lk)
 refine vj Y' hz ?_;have k:∀ b o,h.get? b=some o->((h.push { cls:=.type "tuple",data:=.seq rest.toArray }).push { cls:=.ref C,data:=.fields #[.ref h.objs.size,.none,.none,.none,.bool false,.none] }).get? b=some o:=λb o e=>sn _ (sn _ e)
 have hx:((h.push { cls:=.type "tuple",data:=.seq rest.toArray }).push { cls:=.ref C,data:=.fields #[.ref h.objs.size,.none,.none,.none,.bool false,.none] }).get? (h.objs.size+1)=some { cls:=.ref C,data:=.fields #[.ref h.objs.size,.none,.none,.none,.bool false,.none] }:=by heap_get
 have t1:Looks (model prog w) ((h.push { cls:=.type "tuple",data:=.seq rest.toArray }).push { cls:=.ref C,data:=.fields #[.ref h.objs.size,.none,.none,.none,.bool false,.none] }) (typeOf (.ref (h.objs.size+1))) (.ref C):=(Looks.ld hx).andThen .now;have s1:=self.keeps k;have i1:=(looks_findIn (M:=model prog w) X hi).keeps k;have b1:Looks (model prog w) ((h.push { cls:=.type "tuple",data:=.seq rest.toArray }).push { cls:=.ref C,data:=.fields #[.ref h.objs.size,.none,.none,.none,.bool false,.none] }) (bindSpecial (.builtin "ValueError.__init__") (.ref (h.objs.size+1))) (.builtin "ValueError.__init__",[.ref (h.objs.size+1)]):=Looks.of_pure (PySem.F.excCall_ValueError.init.bind _);unfold isInstance callSpecial? specialOf
 repeat(first|with_reducible refine wpAny_call ?_|lk)
 refine codeAny_mono hq λr s' z=>?_
 rcases r with e|(v|_|_|_)<;>first|exact z|exact z.elim|skip
 obtain⟨rfl,z⟩:=z;exact am (am z)
end
end L2
namespace L2
open PySem PySem.Spec PySem.W PyProof.Rows
abbrev aJ (e:Addr)(h h':Heap):Prop:=∀ oe vs,h.get? e=some oe->oe.data=.fields vs->∃ vs',h'.get? e=some { oe with data:=.fields vs' }/\vs'.size=vs.size
abbrev wk (as:List Addr)(h h':Heap):Prop:=∀ b o,b ∉ as->h.get? b=some o->h'.get? b=some o
abbrev uj (h:Heap)(e T:Addr)(fl:Value):Prop:=∃ oe vs oT ts,h.get? e=some oe/\oe.data=.fields vs/\vs[1]? =some (.ref T)/\T≠e/\h.get? T=some oT/\oT.data=.fields ts/\ts[3]? =some fl
def aJ.trans {e:Addr}{h h1 h2:Heap}(a:aJ e h h1)(b:aJ e h1 h2):aJ e h h2:=λoe vs x y=>by
 obtain⟨vs1,x1,z1⟩:=a oe vs x y;obtain⟨vs2,x2,z2⟩:=b _ vs1 x1 rfl;exact⟨vs2,x2,z2.trans z1⟩
def aJ.same {e:Addr}{h h':Heap}(k:h'.get? e=h.get? e):aJ e h h':=λoe vs x y=>⟨vs,by rw[k,x,<-y],rfl⟩
variable {Q:CB}
section
variable {M:Model}{A:Around}{E:CC}{s:Shared}{base:Heap}{env:Env}{outer:List Env}{L e:Addr}
def gY {oe:Obj}{vs:Array Value}{head:Value}{hadNext:Bool}(hfr:A.frames=some (env::outer))(hl:s.heap.FunFrames base (env::outer))(hf:env.frame=some L)
  (he:s.heap.get? e=some oe) (hd:oe.data=.fields vs) (hsz:1<vs.size)
  (q:∀ h' T,s.heap.objs.size<=T->uj h' e T (rawInt L)->aJ e s.heap h'->(∀ b o,b≠e->s.heap.get? b=some o->∃ sl,h'.get? b=some { o with slots:=sl })->wk (e::iY (env::outer)) s.heap h'->Q () { s with heap:=h' }):
  wpAny M A (do let a <-frameOf env;let pl <-entryPlaceOf L hadNext;let b <-EntryCells.newEntry head a .none (rawInt L) .none pl;setField (.ref e) 1 b) Q E s:=by
 have hne:e ∉ iY (env::outer):=λhm=>by
  obtain⟨_,o,ho,hnf⟩:=hl.mem hm;rw[he]at ho;cases ho;exact hnf vs hd
 refine ad (wpAny_frameOf_fun hfr hl hf λh1 s1=>ad (wpAny_entryPlaceOf λpl hpl=>?_));unfold EntryCells.newEntry newFields;refine ad (wpAny_newObj_type ?_ (hpl.sizeOk5 _ _ _ _ _));have e1:h1.get? e=some oe:=(s1.2.1 e hne).trans he;have e2:=sn (h:=h1) { cls:=.type "traceback",dict:=none,data:=.fields ([head,.ref L,.none,rawInt L,.none]++(if pl.isEmpty then pi 6 Value.none else pl)).toArray } e1;have hTe:h1.objs.size≠e:=Nat.ne_of_gt (ss e1);have d3:=Obj.data_mapFields hd (·.setIfInBounds 1 (Value.ref h1.objs.size));have e3:=Heap.get?_update_self (Obj.mapFields (·.setIfInBounds 1 (Value.ref h1.objs.size))) e2 (Obj.isFreed_of_fields d3);have t3:=(Heap.get?_update_other (h1.push { cls:=.type "traceback",dict:=none,data:=.fields ([head,.ref L,.none,rawInt L,.none]++(if pl.isEmpty then pi 6 Value.none else pl)).toArray })
  (Obj.mapFields (·.setIfInBounds 1 (Value.ref h1.objs.size))) (Ne.symm hTe)).trans (sw h1 rfl)
 have keep:∀ b o,b≠e->h1.get? b=some o->((h1.push { cls:=.type "traceback",dict:=none,data:=.fields ([head,.ref L,.none,rawInt L,.none]++(if pl.isEmpty then pi 6 Value.none else pl)).toArray }).update e (Obj.mapFields (·.setIfInBounds 1 (Value.ref h1.objs.size)))).get? b=some o:=
  λb o hb hq=>(Heap.get?_update_other _ _ (Ne.symm hb)).trans (sn _ hq)
 refine wpAny_setField e2 hd hsz (q _ h1.objs.size ?_ ?_ ?_ (λb o hb ho=>?_) λb o hb ho=>?_)
 .rw[s1.1];exact ol _
 .refine⟨_,_,_,_,e3,d3,by simp[hsz],hTe,t3,rfl,?_⟩
  first|(simp;done)|(rcases hpl with rfl|⟨_,_,_,_,_,_,_,rfl⟩<;>simp)
 .intro oe' vs' x y;rw[he]at x;cases x;rw[hd]at y;cases y;refine⟨vs.setIfInBounds 1 (.ref h1.objs.size),?_,by simp⟩;rw[e3];obtain⟨c0,d0,dt,sl0⟩:=oe;cases hd
  rfl
 .obtain⟨sl,z⟩:=s1.2.2 b o ho;exact⟨sl,keep b _ hb z⟩
 .exact keep b o (λz=>hb (by rw[z];exact li)) ((s1.2.1 b λz=>hb (dl _ z)).trans ho)
abbrev wQ (n₀:Nat)(ps:CD)(H:Hp)(h:Heap)(e:Addr):Prop:=(∃ oe vs,h.get? e=some oe/\oe.data=.fields vs/\vs[1]? =some Value.none)\/∃ T,n₀<=T/\H T=none/\(∀ p ∈ ps,p.1≠T)/\uj h e T .none
def uk {n₀:Nat}{ps:CD}{H:Hp}(hfr:A.frames=some (env::outer))(hl:s.heap.FunFrames base (env::outer))(hf:env.frame=some L)(sf:wQ n₀ ps H s.heap e)(h0:n₀<=s.heap.objs.size)(hps:∀ p ∈ ps,p.1<s.heap.objs.size)
  (q:∀ h' T T0,s.heap.objs.size<=T->n₀<=T0->(H T0=none\/s.heap.objs.size<=T0)->(∀ p ∈ ps,p.1≠T0)->(∀ o,s.heap.get? T0=some o->∃ ts,o.data=.fields ts)->uj h' e T (rawInt L)->aJ e s.heap h'->h'.FunFrames base (env::outer)->(∀ b o,b≠e->b≠T0->s.heap.get? b=some o->∃ sl,h'.get? b=some { o with slots:=sl })->wk (e::T0::iY (env::outer)) s.heap h'->(∀ b o,s.heap.get? b=some o->∃ o',h'.get? b=some o')->Q () { s with heap:=h' }):
  wpAny M A (noteFrame (.ref e) env) Q E s:=by
 have fun_of:∀ {h':Heap}{as:List Addr},(∀ b ∈ as,∀ o,s.heap.get? b=some o->∃ vs,o.data=.fields vs)->(∀ b o,b ∉ as->s.heap.get? b=some o->∃ sl,h'.get? b=some { o with slots:=sl })->h'.FunFrames base (env::outer):=
  λ{h' as} ha k=>hl.of_keeps λb o ho hnf=>by
   by_cases hb:b ∈ as
   .obtain⟨vs,z⟩:=ha b hb o ho;exact absurd z (hnf vs)
   .obtain⟨sl,z⟩:=k b o hb ho;exact⟨_,z,rfl⟩
 unfold noteFrame;simp only[hf];rcases sf with⟨oe,vs,he,hd,h1⟩|⟨T0,hT0,hH0,hp0,oe,vs,oT,ts,he,hd,h1,hTe,hT,hdT,h3⟩
 .skip
  refine ad (ap he hd h1 ?_);rw[if_neg (by decide)];refine gY hfr hl hf he hd (Array.getElem?_eq_some_iff.mp h1).1 λh' T hT st fo sl sy=>?_
  refine q h' T s.heap.objs.size hT h0 (.inr (ol _)) (λp hp=>nw (hps p hp)) (λo z=>absurd (ss z) (Nat.lt_irrefl _)) st fo ?_ (λb o hb _ ho=>sl b o hb ho) (λb o hb ho=>sy b o (λz=>hb ?_) ho) λb o ho=>?_
  .refine fun_of (as:=[e]) (λb hb o ho=>?_) λb o hb ho=>sl b o (by simpa using hb) ho
   obtain rfl:b=e:=by simpa using hb
   rw[he]at ho;cases ho;exact⟨vs,hd⟩
  .rcases lv.mp z with z|z
   .exact lv.mpr (.inl z)
   .exact dl _ (dl _ z)
  .by_cases hb:b=e
   .subst hb;rw[he]at ho;cases ho;obtain⟨vs',z,_⟩:=fo _ _ he hd;exact⟨_,z⟩
   .obtain⟨sl',z⟩:=sl b o hb ho;exact⟨_,z⟩
 .refine ad (ap he hd h1 ?_);rw[if_pos (show(Value.ref T0 != Value.none)=true from by simp)];refine ad (ap hT hdT h3 ?_);rw[if_neg (show ¬ ((Value.none ==rawInt L)=true) from by simp[rawInt])];refine ad (wpAny_setField hT hdT (Array.getElem?_eq_some_iff.mp h3).1 ?_);have other:∀ b,b≠T0->(s.heap.update T0 (Obj.mapFields (·.setIfInBounds 3 Value.none))).get? b=s.heap.get? b:=λb hb=>Heap.get?_update_other _ _ (Ne.symm hb)
  have self':=Heap.get?_update_self (Obj.mapFields (·.setIfInBounds 3 Value.none)) hT (Obj.isFreed_of_fields (Obj.data_mapFields hdT _));have rec':∀ b o,s.heap.get? b=some o->(∀ vs,o.data≠.fields vs)->b≠T0:=λb o hb hnf z=>by
   rw[z,hT]at hb;cases hb;exact hnf ts hdT
  refine gY (base:=base) hfr (hl.of_keeps λb o hb hnf=>⟨o,(other b (rec' b o hb hnf)).trans hb,rfl⟩) hf ((other e (Ne.symm hTe)).trans he) hd (Array.getElem?_eq_some_iff.mp h1).1 λh' T hTn st fo sl sy=>?_
  have hTn':s.heap.objs.size<=T:=by
   have z:(s.heap.update T0 (Obj.mapFields (·.setIfInBounds 3 Value.none))).objs.size<=T:=hTn
   rwa [Heap.size_after_update]at z
  refine q h' T T0 hTn' hT0 (.inl hH0) hp0 (λo z=>by rw[hT]at z;cases z;exact⟨ts,hdT⟩) st (aJ.trans (aJ.same (other e (Ne.symm hTe))) fo) ?_ (λb o hb hb0 ho=>sl b o hb ((other b hb0).trans ho)) (λb o hb ho=>?_) λb o ho=>?_
  .refine fun_of (as:=[e,T0]) (λb hb o ho=>?_) λb o hb ho=>sl b o (λz=>hb (by simp[z])) ((other b λz=>hb (by simp[z])).trans ho)
   rcases lv.mp hb with hb|hb
   .subst hb;rw[he]at ho;cases ho;exact⟨vs,hd⟩
   .obtain rfl:b=T0:=by simpa using hb
    rw[hT]at ho;cases ho;exact⟨ts,hdT⟩
  .have n1:b≠e:=λz=>hb (by simp[z])
   have n2:b≠T0:=λz=>hb (by simp[z])
   refine sy b o (λz=>hb ?_) ((other b n2).trans ho);rcases lv.mp z with z|z
   .exact lv.mpr (.inl z)
   .exact dl _ (dl _ z)
  .by_cases hb:b=e
   .subst hb;obtain⟨vs',z,_⟩:=fo _ _ ((other b (Ne.symm hTe)).trans he) hd;exact⟨_,z⟩
   .by_cases hb0:b=T0
    .subst hb0;obtain⟨sl',z⟩:=sl b _ hb self';exact⟨_,z⟩
    .obtain⟨sl',z⟩:=sl b o hb ((other b hb0).trans ho);exact⟨_,z⟩
def lP {T:Addr}{fl:Value}(st:uj s.heap e T fl)
  (q:∀ h',uj h' e T .none->(∀ b,b≠T->h'.get? b=s.heap.get? b)->(∃ o,s.heap.get? T=some o)->(∃ o,h'.get? T=some o)->(∃ oT ts,h'.get? T=some oT/\oT.data=.fields ts)->Q () { s with heap:=h' }):wpAny M A (setFlight (.ref e) none) Q E s:=by
 obtain⟨oe,vs,oT,ts,he,hd,h1,hTe,hT,hdT,h3⟩:=st;have hz:3<ts.size:=(Array.getElem?_eq_some_iff.mp h3).1;have other:∀ b,b≠T->(s.heap.update T (Obj.mapFields (·.setIfInBounds 3 ((none:Option Addr).elim Value.none λf=>rawInt f)))).get? b=s.heap.get? b:=λb hb=>Heap.get?_update_other _ _ (Ne.symm hb)
 have self':=Heap.get?_update_self (Obj.mapFields (·.setIfInBounds 3 ((none:Option Addr).elim Value.none λf=>rawInt f))) hT (Obj.isFreed_of_fields (Obj.data_mapFields hdT _));unfold setFlight;refine ad (ap he hd h1 ?_);rw[if_pos (show(Value.ref T != Value.none)=true from by simp)];refine wpAny_setField hT hdT hz (q _ ⟨oe,vs,_,_,(other e (Ne.symm hTe)).trans he,hd,h1,hTe,self',Obj.data_mapFields hdT _,by simp[hz]⟩ other ⟨_,hT⟩ ⟨_,self'⟩ ⟨_,_,self',Obj.data_mapFields hdT _⟩)
end
variable {A:Around}
section
variable {X:Cx}{U:St}{H:Hp}{s:Shared}{e C:Addr}{dx:Option Addr}{fs:List (Str×V)}{h':Heap}
def Inv.qJ {Y:CD}(I:Inv X Y U H s):Inv X [] U H s:=I.ip λ_ z=>absurd z (by simp)
def Inv.yN {T0:Addr}{as:List Addr}(I:Inv X [] U H s)(hpn:∀ p ∈ X.pn,p.1≠T0) (he:H e=some (.exc C dx fs false)) (has:as=iY X.stack)
  (hT:X.s₀.heap.objs.size<=T0) (hT0:H T0=none\/s.heap.objs.size<=T0) (hTd:∀ o,s.heap.get? T0=some o->∃ ts,o.data=.fields ts)
  (fo:aJ e s.heap h') (sl:∀ b o,b≠e->b≠T0->s.heap.get? b=some o->∃ sl,h'.get? b=some { o with slots:=sl }) (sy:wk (e::T0::as) s.heap h') (th:∀ b o,s.heap.get? b=some o->∃ o',h'.get? b=some o'):
  Inv X [] U H { s with heap:=h' }:=by
 subst has;obtain⟨⟨vs,ho,hsz,_⟩,z⟩:=id (I.hok e _ he);have hH0:H T0=none:=by
  rcases hT0 with z|z
  .exact z
  .exact I.hok.fresh z
 have nT:∀ {b:Addr}{o:Obj},s.heap.get? b=some o->(∀ vs,o.data≠.fields vs)->b≠T0:=λ{b o} hb hn z=>by
  subst z;obtain⟨ts,q⟩:=hTd _ hb;exact hn ts q
 have du:∀ b o,H b=none->b≠T0->b ∉ iY X.stack->s.heap.get? b=some o->h'.get? b=some o:=λb o hb h0 hf hq=>sy b o (λm=>by
  rcases lv.mp m with m|m
  .rw[m,he]at hb;cases hb
  .rcases lv.mp m with m|m
   .exact h0 m
   .exact hf m) hq
 have uQ:∀ a u,H a=some u->a≠e->∀ o,s.heap.get? a=some o->h'.get? a=some o:=λa u ha ne o hq=>sy a o (λm=>by
  rcases lv.mp m with m|m
  .exact ne m
  .rcases lv.mp m with m|m
   .rw[m,hH0]at ha;cases ha
   .rw[I.iu a m]at ha;cases ha) hq
 refine I.step (g':=s.gens) (t':=s.toks) (d':=s.drawn) (ch:=[T0]) (h':=h') (λb hb=>?_) (λb o hL hfs hch hq hn=>?_) (λb o hL hfs hch hq hn=>?_) (λb o _ _ hn=>hn) (λb o _ hq=>th b o hq) (λ_ _ q=>q) (λ_ _ _ q=>q) (λb ps q=>⟨#[],by rw[q];simp⟩) (λm hm=>?_) (λa u ha=>?_) I.bare
 .obtain rfl:b=T0:=by simpa using hb
  refine⟨.inr hT,?_,λx c hc z=>?_,λp hp=>hpn p (by simpa using hp)⟩
  .obtain⟨m,⟨o,es,ep,ho',hd,_⟩,_⟩:=I.loc;intro z;exact nT ho' (λvs q=>by rw[hd]at q;cases q) z.symm
  .obtain⟨v,o,ho',hd⟩:=I.cell x c hc;exact nT ho' (λvs q=>by rw[hd]at q;cases q) z
 .refine du b o hn (by simpa using hch) (λm=>?_) hq;rcases lv.mp (I.d9 b m) with z|z
  .exact hL z
  .exact hfs z
 .exact sl b o (λz=>by rw[z,he]at hn;cases hn) (by simpa using hch) hq
 .obtain⟨o,es,ep,ho',hd,r⟩:=hm;have n1:X.env.locals≠e:=λz=>by have:=I.free;rw[z,he]at this;cases this
  obtain⟨sl',q⟩:=sl _ o n1 (nT ho' λvs q=>by rw[hd]at q;cases q) ho';exact⟨_,es,ep,q,hd,r⟩
 .by_cases hae:a=e
  .subst hae;rw[he]at ha;cases ha;obtain⟨vs',q,hz⟩:=fo _ vs ho rfl;refine⟨⟨vs',q,hz.trans hsz,λy=>by cases y⟩,?_⟩;rcases z with z|⟨d,ed,d1,z1,ne,mA,⟨od,es,ep,e2,c⟩,r⟩
   .exact .inl z
   .exact .inr ⟨d,ed,d1,z1,ne,mA,⟨od,es,ep,uQ d _ d1 ne _ e2,c⟩,r⟩
  .refine(I.hok a u ha).du (λb o hb hq=>?_) (λ_ q=>q) λ_ _ q=>q
   rcases hb with hb|hb
   .subst hb;exact uQ b u ha hae o hq
   .refine uQ b _ hb (λz=>?_) o hq;rw[z,he]at hb;cases hb
abbrev qY (P:Program)(w:World):mN:=λouter H s E u s'=>∃ (e:Addr) (H':Hp) (C:Addr) (dx:Option Addr) (fs:List (Str×V)) (T:Addr),u=.ref e/\s'.os=s.os/\AllBare s'.gens/\Un (iY outer) [] H H' s.heap s'.heap/\c4 P w H' s'.heap/\
 H' e=some (.exc C dx fs false)/\s.heap.objs.size<=T/\H' T=none/\uj s'.heap e T .none/\E e H'
abbrev Aq (X:Cx)(E:St->XK):Prop:=∀ (U:St) (H:Hp) (s:Shared) (e C:Addr) (dx:Option Addr) (fs:List (Str×V)),Inv X [] U H s->wQ X.s₀.heap.objs.size X.pn H s.heap e->H e=some (.exc C dx fs false)->E U e H->X.xe (.ref e) s
def nX {E:St->XK}(x:Aq X E):Passes (qY X.prog X.w) X E:=by
 intro Y U H s u s' I h;obtain⟨e,H',C,dx,fs,T,rfl,os,bare,un,hok,he,hT,hT0,st,q⟩:=h;have J:Inv X [] U H' s':=Inv.qq (ch:=[]) I.qJ os un hok bare (λb z=>absurd z (by simp));exact x U H' s' e C dx fs J (.inr ⟨T,Nat.le_trans I.sz hT,hT0,λp hp=>nw (nb (ss (I.pin p (mem_append_left _ hp)).1) hT),st⟩) he q
def nD {M:Model}{E E':CC}{Q:Shared->Prop}(I:Inv X [] U H s)(hs:X.stack=X.env::X.outer)(hf:X.env.frame=some X.env.locals)(sf:wQ X.s₀.heap.objs.size X.pn H s.heap e)(he:H e=some (.exc C dx fs false))
  (q:∀ s' T,Inv X [] U H s'->s'.os=s.os->X.s₀.heap.objs.size<=T->H T=none->(∀ p ∈ X.pn,p.1≠T)->uj s'.heap e T .none->Q s'):
  wpAny M X.A (noteFrame (.ref e) X.env) (λ_ s1=>wpAny M X.A (setFlight (.ref e) none) (λ_ s2=>Q s2) E s1) E' s:=by
 have hl:s.heap.FunFrames X.base (X.env::X.outer):=hs▸I.stack;refine uk (by rw[<-hs];exact I.ok.frames) hl hf sf I.sz (λp hp=>ss (I.pin p (mem_append_left _ hp)).1) λh1 T T0 hT hT0 hH0 hp0 hTd st fo fF sl sy th=>?_
 have I1:=I.yN (T0:=T0) (as:=iY (X.env::X.outer)) (h':=h1) hp0 he (by rw[hs]) hT0 hH0 hTd fo sl sy th;have hHT:H T=none:=I.hok.fresh hT;have hpT:∀ p ∈ X.pn,p.1≠T:=λp hp=>nw (nb (ss (I.pin p (mem_append_left _ hp)).1) hT)
 refine lP (s:={ s with heap:=h1 }) st λh2 lQ oth _ th2 rec2=>?_
 have I2:Inv X [] U H { s with heap:=h2 }:=by
  refine Inv.turned (s:={ s with heap:=h1 }) (it:=T) (h':=h2) (t':=s.toks) I1 (λb o hb hq=>(oth b hb).trans hq) hHT ?_ (.inr (Nat.le_trans I.sz hT)) (λx c hc z=>?_) λp hp=>hpT p (by simpa using hp)
  .exact λz=>absurd (nb I.lt hT) (by rw[z];exact Nat.lt_irrefl _)
  .obtain⟨v,o,ho,_⟩:=I.cell x c hc;exact absurd (nb (ss ho) hT) (by rw[z];exact Nat.lt_irrefl _)
 exact q _ T I2 rfl (Nat.le_trans I.sz hT) hHT hpT lQ
def nG {P:Program}{w:World}{K:W.Frag}{mg:CF}{base:Heap}{N:List Str}{qual:Str}{scope:Scope}{f:Addr}{cd:Value}{outer:List Env}{E:XK}:
  Aq (nH (qY P w) P w K mg base N qual scope f cd A outer s H E) (λ_=>E):=by
 intro σ' H' s' e C dx fs I sf he q;show wpAny _ _ (do noteFrame (.ref e) _;setFlight (.ref e) none) _ _ s';refine ad (nD I rfl rfl sf he λs2 T J os hT hH _ st=>?_);exact⟨e,H',C,dx,fs,T,rfl,J.os,J.bare,J.base,J.hok,he,hT,hH,st,q⟩
end
structure AB (K:W.Frag) (C f:Addr):Prop where
 mks:aY K C=true
 init:W.findIn K (.ref C) "__init__"=some (some (.ref f))
 fn:W.isFn K (.ref f)=true
 kp:W.keepIn K (.ref C)=true
variable {us:List Value}{vs:List V}
section
variable {X:Cx}{Y:CD}{U:St}{H:Hp}{s:Shared}{C f:Addr}
def Inv.uR (us:List Value)(I:Inv X Y U H s):Inv X Y U (upd H (s.heap.objs.size+1) (.exc C none [] true))
  { s with heap:=(s.heap.push { cls:=.type "tuple",data:=.seq us.toArray }).push { cls:=.ref C,data:=.fields #[.ref s.heap.objs.size,.none,.none,.none,.bool false,.none] } }:=by
 have I1:=I.kept (h':=s.heap.push { cls:=.type "tuple",data:=.seq us.toArray }) (t':=s.toks) λb u q=>sn _ q
 refine Inv.laid (s:={ s with heap:=s.heap.push { cls:=.type "tuple",data:=.seq us.toArray } }) (a:=s.heap.objs.size+1) (o:=.exc C none [] true) (t':=s.toks) I1 (λb u q=>sn _ q) (Nat.le_of_eq (Heap.size_push _ _)) ?_;refine⟨⟨#[.ref s.heap.objs.size,.none,.none,.none,.bool false,.none],?_,rfl,λ_=>rfl⟩,.inl ⟨rfl,rfl⟩⟩;have:=sw (s.heap.push { cls:=.type "tuple",data:=.seq us.toArray }) (o:={ cls:=.ref C,data:=.fields #[.ref s.heap.objs.size,.none,.none,.none,.bool false,.none] }) rfl
 rwa [Heap.size_push]at this
variable {CX:mN}{k:Nat}{fd:FuncData}{ps:List Str}{sp:Sp}{dvs:List V}{ds:List Value}{E:St->XK}{x m:Str}{p pos apos:Pos}{e o:Expr}{es:List Expr}{ta:TE}{t:TA}
abbrev qk (C:Addr)(sp:Sp)(dvs:List V)(E:St->XK)(t:TA):TE:=λU H Q=>t U H λvs H1=>vs.length<=1000/\∀ x,H1 x=none->sp (.ref x::(vs++dvs)) (upd H1 x (.exc C none [] true)) (λv H2=>v=.non/\Q (.ref x) H2) (E U)
def gZ {Q:VK}(M:AB X.K C f)(F:bI X.prog X.w X.K X.mg X.base CX k f fd ps sp)(hr:aS (k+1) X.A)(hb:Binds X.K fd ps ds)(hd:Vals dvs ds)
  (hx:Passes CX X E) (hz:us.length<=bn) (I:Inv X Y U H s) (r:Vals vs us)
  (h:∀ x,H x=none->sp (.ref x::(vs++dvs)) (upd H x (.exc C none [] true)) (λv H2=>v=.non/\Q (.ref x) H2) (E U)):
  wpAny (model X.prog X.w) X.A (call (.ref C) us) (EP X Y U Q) X.xe s:=by
 have hq:=h (s.heap.objs.size+1) (I.hok.fresh (Nat.le_succ _));have I2:=Inv.uR (C:=C) us I;have r2:Vals (V.ref (s.heap.objs.size+1)::(vs++dvs)) (Value.ref (s.heap.objs.size+1)::(us++ds)):=.cons rfl (r.append hd);have hl:(Value.ref (s.heap.objs.size+1)::us++ds).length=ps.length:=by
  have e:=r2.length;rw[F.len _ _ _ _ hq]at e;exact e.symm
 obtain⟨hh,g,d,tk,os⟩:=s;refine wpAny_call (xl (fI:=f) I.aT hz M.mks M.init (beq_iff_eq.mp M.fn) (codeAny_mono (F.run _ X.stack _ _ ⟨Value.ref (hh.objs.size+1)::us,[]⟩ (Value.ref (hh.objs.size+1)::(us++ds)) _ _ (E U) (hr.make C us [])
  (I2.ei.make C us []) (hb _ (Value.ref (hh.objs.size+1)::us) I2.aT hl) r2 hq) λr s' hq'=>?_))
 cases r with
 |error e=>exact hx Y U _ _ e s' I2 hq'
 |ok fl=>
  cases fl with
  |ret u=>
   obtain⟨v,H',J,rv,ev,q⟩:=I2.after hq';subst ev;obtain rfl:u=Value.none:=rv;exact⟨rfl,.ref _,H',J,rfl,q⟩
  |next=>exact False.elim hq'
  |brk=>exact False.elim hq'
  |cont=>exact False.elim hq'
def rH (M:AB X.K C f)(F:bI X.prog X.w X.K X.mg X.base CX k f fd ps sp)(hr:aS (k+1) X.A)(hg:Gl X x)(hm:X.mg x=some (.ref C))(hb:Binds X.K fd ps ds)(hd:Vals dvs ds)(hx:Passes CX X E)
  (ha:PA X (e::es) t) (hdb:(x ==("__debug__":Str))=false:=by decide) (he:bm (e::es) X.env=(false,eval e X.env)::bm es X.env:=by rfl) (hpl:(backTo pos (bm es X.env)).any (·.1)=false:=by rfl):
  PE X (.Call (.Name x p) (e::es) [] pos) (qk C sp dvs E t):=by
 intro Y s U H Q I h;refine bv (aN I hg hm ?_ hdb);refine W.callWith_K (h₀:=X.base) I.ok.mod.kin M.kp (ar (ha pos Y s U H _ I h) λus s1 ⟨vs,H1,I1,r,z,q⟩=>⟨I1.aT,?_⟩) he hpl;exact gZ M F hr hb hd hx (by rw[nil_append,<-r.length];exact Nat.le_of_lt (bK z)) I1 r q
structure xY (K:W.Frag) (C:Addr):Prop where
 mks:aY K C=true
 init:W.findIn K (.ref C) "__init__"=some (some (.builtin "ValueError.__init__"))
 kp:W.keepIn K (.ref C)=true
 cls:bj K C
abbrev uG (C:Addr)(t:TA):TE:=λU H Q=>t U H λvs H1=>vs.length=1/\∀ x,H1 x=none->Q (.ref x) (upd H1 x (.exc C none [] true))
def kR {Q:VK}(M:xY X.K C)(I:Inv X Y U H s)(r:Vals vs us)(h1:vs.length=1)(h:∀ x,H x=none->Q (.ref x) (upd H x (.exc C none [] true))):
  wpAny (model X.prog X.w) X.A (call (.ref C) us) (EP X Y U Q) X.xe s:=by
 have hq:=h (s.heap.objs.size+1) (I.hok.fresh (Nat.le_succ _));have I2:=Inv.uR (C:=C) us I;obtain⟨u,rfl⟩:∃ u,us=[u]:=by
  have e:=r.length;rw[h1]at e
  match us,e with
  | [u],_=>exact⟨u,rfl⟩
 obtain⟨hh,g,d,tk,os⟩:=s;refine wpAny_call (um I.aT (by rw[sizeLine_eq];exact nl rfl) M.mks M.init (fZ (C:=C) (dx:=none) (fs:=[]) (fr:=true) I2 ah M.cls λs' J=>?_));exact⟨rfl,.ref _,_,J,rfl,hq⟩
def oM (M:xY X.K C)(hg:Gl X x)(hm:X.mg x=some (.ref C))(ha:PA X (e::es) t)(hdb:(x ==("__debug__":Str))=false:=by decide) (he:bm (e::es) X.env=(false,eval e X.env)::bm es X.env:=by rfl) (hpl:(backTo pos (bm es X.env)).any (·.1)=false:=by rfl):
  PE X (.Call (.Name x p) (e::es) [] pos) (uG C t):=by
 intro Y s U H Q I h;refine bv (aN I hg hm ?_ hdb);refine W.callWith_K (h₀:=X.base) I.ok.mod.kin M.kp (ar (ha pos Y s U H _ I h) λus s1 ⟨vs,H1,I1,r,z,q⟩=>⟨I1.aT,?_⟩) he hpl;exact kR M I1 r z q
structure BR (K:W.Frag) (B:Addr):Prop where
 ga:W.specialIn K (.ref B) "__getattribute__"=some (some (.builtin "type.__getattribute__"))
 rd:W.readsIn K B (.type "type")=true
 fi:W.findCls K (.ref B) (.type "type") "__init__"=some (.val (.builtin "ValueError.__init__"))
abbrev Bh (K:W.Frag)(t:TA):TE:=λU H Q=>t U H λvs H1=>∃ a C dx fs fr v,vs=[.ref a,v]/\H1 a=some (.exc C dx fs fr)/\bj K C/\Q .non H1
def xx {B:Addr}{pl:Sem Bool}{np:Pos}(b:BR X.K B)(hg:Gl X x)(hm:X.mg x=some (.ref B))(ha:PA X (e::es) t)(hdb:(x ==("__debug__":Str))=false:=by decide)
  (hst:bm (e::es) X.env=(false,eval e X.env)::bm es X.env:=by rfl) (hpl:(backTo pos (bm es X.env)).any (·.1)=false:=by rfl)
  (ht:eval (.Call (.Attribute (.Name x np) "__init__" apos) (e::es) [] pos) X.env=(do
   let ov <-eval (.Name x np) X.env
   standAt apos.atName
   let(f,first) <-holding [ov] (getMethod ov "__init__" pl)
   callWith pos f first (backTo pos (bm (e::es) X.env)) (backToKw pos (keywordEach [] X.env))):=by rfl):
  PE X (.Call (.Attribute (.Name x np) "__init__" apos) (e::es) [] pos) (Bh X.K t):=by
 intro Y s U H Q I h;refine W.methodCall_KW (pl:=pl) (aN I hg hm ?_ hdb) ht;refine W.method_cls I.aT b.ga (W.cls_value I.aT b.rd b.fi (by decide+kernel) ?_);refine PyProof.Rows.callWith_builtin1 (ar (ha pos Y _ U H _ (I.tok _) h) λus s1 ⟨vs,H1,I1,r,a,C,dx,fs,fr,v,ev,ea,c,q⟩=>?_) hst hpl;subst ev;cases r with
 |cons r1 r2=>
  cases r2 with
  |cons r3 r4=>
   cases r4;cases r1;exact kG I1 ea c λs' J=>⟨.non,H1,J,rfl,q⟩
structure B8 (K:W.Frag) (C f:Addr):Prop where
 ga:W.specialIn K (.ref C) "__getattribute__"=some (some (.builtin "type.__getattribute__"))
 rd:W.readsIn K C (.type "type")=true
 fi:W.findCls K (.ref C) (.type "type") "__init__"=some (.val (.ref f))
 kp:W.keepIn K (.ref f)=true
end
section
open PySem.Builtin PySem.Builtin.ObjectAttr
variable {prog:Program}{w:World}{A:Around}{E:CC}{s:Shared}{K:W.Frag}{x C:Addr}{ox:Obj}{odo:Option Obj}
structure rg (K:W.Frag) (C:Addr):Prop where
 ha:W.findIn K (.ref C) "__class__"=some (some (.builtin "object.__class__"))
 hn:W.specialIn K (.builtin "object.__class__") "__get__"=some (some (.builtin "getset_descriptor.__get__"))
 htk:W.takesIn K (.builtin "object.__class__")=some true
def uM {Q:Option Value->Shared->Prop}(X:K.In s.heap)(I:W.InstAt s.heap x ox C odo)(c:bj K C)(z:rg K C)(hfo:W.findObj K C odo "__class__"=some (.bind (.builtin "getset_descriptor.__get__") (.builtin "object.__class__")))
  (h:Q (some (.ref C)) { s with toks:=s.toks+1 }):wpAny (model prog w) A (getAttr? (.ref x) "__class__") Q E s:=by
 obtain⟨hp,g,d,t,os⟩:=s;have L0:=I.type (M:=model prog w);have L1:=looks_findIn (M:=model prog w) X c.ga;have L2':=looks_findIn (M:=model prog w) X c.gn;have L3:=looks_find (M:=model prog w) X I hfo;have L4:Looks (model prog w) hp (isInstance (.ref x) (.type "BaseException")) true:=I.type.andThen (looks_mroIn X (c.sub (by decide+kernel)));unfold getAttr? getAttrBy? getAttrBy;refine ad (wpAny_mkText (ad (wpAny_attempt (bd (ad (L0.at (ad (L1.at ?_))))))));have e1:(Value.builtin "BaseException.__getattribute__" ==Value.builtin "object.__getattribute__")=false:=by decide+kernel
 dsimp only;rw[e1,Bool.and_false];show wpAny _ _ (getAttrByItsOwn _ _ _ _ _ _) _ _ _;unfold getAttrByItsOwn hookBefore;refine ad (L2'.at ?_);refine ad (wpAny_attempt (bd ?_));unfold callGetattribute;show wpAny _ _ (boundAndCalled _ _ _) _ _ _;unfold boundAndCalled;rw[PySem.F.attr_ValueError.ga.bind];refine ad (am (wpAny_call (codeAny_call_builtin PySem.F.attr_ValueError.ga.plain PySem.F.entry_bexc_ga ?_)));refine @check_slot (model prog w) _ _ _ "BaseException.__getattribute__" "BaseException" "__getattribute__" (.ref x) [.str "__class__" t] [] _ jE gE L4 (PySem.F.args_bexc_ga (.ref x) (.str "__class__" t)) ?_;unfold Builtin.«object.__getattribute__»;refine ad (am (ad (am (ad (L0.at (ad (L3.at ?_)))))));show wpAny _ _ (holding [_] (call _ [_,.ref x,.ref C]) >>= ret) _ _ _;refine ad (bd (wpAny_call (class_get (s:=⟨hp,g,d,t+1,os⟩) (ox:=ox) (od:=odo) X I (c.sub (by decide+kernel)) ?_)));refine am ?_;show wpAny _ _ (handedOut (.ref C)) _ _ _;exact handed_on rfl (am h)
def rX (c:bj K C)(z:rg K C):W.findObj K C odo "__class__"=some (.bind (.builtin "getset_descriptor.__get__") (.builtin "object.__class__")):=by
 obtain⟨cd,hc,_⟩:=W.any_some c.hd;unfold W.findObj;rw[hc,Option.bind_some,z.ha,Option.bind_some];simp[z.hn,z.htk]
def kl (c:bj K C)(z:rg K C):W.KitX K (.ref x) (.ref C) (λh=>W.InstAt h x ox C odo) where
 ty:=λ_ _ _ I=>I.type
 it:=λ_ _ X _=>by
  obtain⟨cdD,hcD,_⟩:=W.any_some c.hd;unfold W.clsIn at hcD
  split at hcD
  .rename_i c' d' cd' sl' ho;intro A' Q' E' s' k q;unfold isType loadHead;exact ad (wpAny_loadPart (k _ _ (X _ _ ho)) (am q))
  .cases hcD
 ne:=λh tp dd its n sl X htp=>by
  obtain⟨cdD,hcD,_⟩:=W.any_some c.hd;refine Bool.eq_false_iff.mpr λq=>?_
  have e:C=tp:=Value.ref.inj (beq_iff_eq.mp q);subst e;unfold W.clsIn at hcD
  split at hcD
  .rename_i c' d' cd' sl' ho;have z:=(X _ _ ho).symm.trans htp;cases z
  .cases hcD
 ca:=λX I k=>uM X I c z (rX c z) k
end
section
variable {X:Cx}{Y:CD}{U:St}{H:Hp}{s:Shared}{a C:Addr}{dx:Option Addr}{fs:List (Str×V)}{fr:Bool}
def jF (I:Inv X Y U H s)(e:H a=some (.exc C dx fs fr)):∃ ox odo,W.InstAt s.heap a ox C odo:=by
 obtain⟨⟨vs,ho,_⟩,z⟩:=id (I.hok a _ e);rcases z with⟨rfl,_⟩|⟨d,rfl,_,_,_,mA,⟨od,es,ep,hod,_⟩,_⟩
 .exact⟨_,none,ho,rfl,rfl,True.intro⟩
 .exact⟨_,some od,ho,rfl,rfl,hod⟩
def pV {E:CC}{Q:CC}{cv:Value}{b:Bool}(I:Inv X Y U H s)(e:H a=some (.exc C dx fs fr))(c:bj X.K C)(z:rg X.K C)(k:W.kitOne X.K (.ref C) cv=some b)
  (h:∀ tk,Q (.bool b) { s with toks:=tk }):wpAny (model X.prog X.w) A (call (.builtin "isinstance") [.ref a,cv]) Q E s:=by
 obtain⟨ox,odo,J⟩:=jF I e;exact W.kia_one (kl (ox:=ox) (odo:=odo) c z) I.aT J k (λz=>nomatch z) h
end
end L2
namespace L2
open PySem PySem.Spec PySem.W PyProof.Rows
variable {dx:Option Addr}
section
variable {X:Cx}{f:Str}{o value ex:Expr}{ta tv te:TE}{pos pos':Pos}{E:St->XK}
def lh {h:Heap}{a:Addr}{C:Addr}{vs:Array Value}{M:Model}(ho:h.get? a=some { cls:=.ref C,dict:=dx,data:=.fields vs }):W.Looks M h (isType (.ref a)) false:=by
 intro A Q E s k q;unfold isType loadHead;exact ad (wpAny_loadPart (k _ _ ho) (am q))
abbrev wD (K:W.Frag)(E:St->XK)(te:TE):TS:=λD U H=>te U H λv H1=>∃ a C dx fs,v=.ref a/\H1 a=some (.exc C dx fs true)/\bj K C/\E U a (upd H1 a (.exc C dx fs false))
def pz (hx:Aq X E)(hc:X.calm=true)(he:PE X ex te):PS X (.Raise (some ex) none pos) (wD X.K E te):=by
 intro Y s U H D I h;rw[arm_exec_Raise];simp only[evalOpt,Option.map];refine ad (wpAny_standAt ?_);unfold raiseStmt;refine ad (ad (ar (he Y s U H _ I h) λu s1 ⟨y,H1,I1,ry,a,C,dx,fs,ey,ea,c,q⟩=>ad (wpAny_standAt (am ?_))));subst ey;obtain rfl:u=Value.ref a:=ry;obtain⟨⟨vs,ho,hsz,h1⟩,z⟩:=id (I1.hok a _ ea);have h1':=h1 rfl;have hq:X.xe (.ref a) s1:=by
  have J:Inv X [] U (upd H1 a (.exc C dx fs false)) s1:=by
   have J1:=I1.qJ.write (x:=a) (e:=a) (o:=.exc C dx fs false) (t':=s1.toks) (h':=s1.heap) (by rw[ea];exact True.intro) (.inl rfl) (λ_ _ _ q=>q) ⟨_,ho⟩ ?_
   .exact J1
   .refine⟨⟨vs,ho,hsz,λy=>by cases y⟩,?_⟩;rcases z with z|⟨d,ed,d1,z1,ne,r⟩
    .exact .inl z
    .exact .inr ⟨d,ed,by rw[af ne];exact d1,z1,ne,r⟩
  exact hx U _ s1 a C dx fs J (.inl ⟨_,vs,ho,rfl,h1'⟩) ah q
 obtain⟨hp,g,d,tk,os⟩:=s1;have L0:Looks (model X.prog X.w) hp (typeOf (.ref a)) (.ref C):=(Looks.ld ho).andThen .now;have L1:Looks (model X.prog X.w) hp (isType (.ref a)) false:=lh ho;have L2':Looks (model X.prog X.w) hp (isInstance (.ref a) (.type "BaseException")) true:=L0.andThen (looks_mroIn I1.aT (c.sub (by decide+kernel)));have L5:Looks (model X.prog X.w) hp (typeOf (.ref C)) (.type "type"):=looks_typeIn I1.aT c.mt;have tt:(Value.type "type" ==Value.type "type")=true:=by decide
 repeat(first|simp only[Bool.false_eq_true,if_false,if_true,tt]|lk)
 rw[h1'];refine am ?_;rw[if_neg (by decide)];exact am (wpAny_raiseNew_none (I1.ok.hd hc) hq)
end
@[reducible]def Cx.aK (X:Cx) (e:Value):Cx:={ X with A:=X.A.mark (some e),calm:=false,xe:=λ_ _=>False }
section
variable {X:Cx}{Y:CD}{U:St}{H:Hp}{s:Shared}
def Cx.Ok.aK (ok:X.Ok)(e:Value):(X.aK e).Ok:=
 ⟨ok.mod,ok.kind,ok.glob,ok.blt,ok.above,ok.inj,ok.has,ok.cab,(λz=>by cases z),ok.frames,ok.stk,ok.exf,ok.bs,ok.bsz,ok.noex,ok.exfs,ok.gk,ok.frf⟩
def Inv.aK (I:Inv X Y U H s)(e:Value):Inv (X.aK e) Y U H s:=⟨I.ok.aK e,I.os,I.bare,I.base,I.loc,I.cell,I.free,I.freeC,I.pin,I.hok,I.len⟩
def Inv.fJ {e:Value}(ok:X.Ok)(I:Inv (X.aK e) Y U H s):Inv X Y U H s:=⟨ok,I.os,I.bare,I.base,I.loc,I.cell,I.free,I.freeC,I.pin,I.hok,I.len⟩
def cO {M:Model}{A:Around}{E:CC}{Q:CB}{i:Nat}{n:Str}{pos:Pos}(I:Inv X Y U H s)(hN:X.N.Nodup)(hi:X.N[i]? =some n)(hn:X.env.scope.names.lookup n=some .local)
  (h:∀ s',Inv X Y (U.set i none) H s'->Q () s'):wpAny M A (do bindName X.env n .none;unbindBehindTheSuite X.env n pos) Q E s:=by
 have hcls:(X.env.scope.kind ==.class||(X.env.scope.kind ==.module&&X.env.locals != X.env.globals))=false:=by rw[I.ok.kind];rfl
 refine ad (wpAny_bindName (cF I hN hi (.inl hn) (v:=.non) rfl (λs1 I1=>?_) (.inr hn)));obtain⟨m,hm,hl⟩:=I1.loc;unfold unbindBehindTheSuite;refine wpAny_onRaise ?_;unfold unbindName;refine ad (wpAny_point (ad ?_));unfold deleteName;have hk:X.env.kindOf n=some .local:=hn;have hiσ:i<U.length:=by rw[I.len];exact(re.mp hi).1
 have hmn:(m n).isSome=true:=by
  obtain⟨u,_,l⟩:=hl i n .non hi (by rw[getElem?_set_self hiσ]) (.inl hn);rcases l with⟨_,q⟩|⟨q,_⟩
  .rw[q];rfl
  .rcases q with q|q<;>(rw[hk]at q;cases q)
 simp only[hk,hcls];rw[if_neg (by decide)];refine ad (wpAny_nsDel_keeps hm λh2 v hn2 hs2=>?_);rw[hmn];simp only[if_true,Bool.not_true,Bool.false_eq_true,if_false];refine am (wpAny_point (h { s1 with heap:=h2 } ?_));obtain⟨oL,esL,epL,hoL,_⟩:=id hm;have pT:=I1.pT;refine⟨I1.ok,I1.os,I1.bare,⟨λb o e n hb hx=>?_,λb o e n hb hx=>?_,I1.base.free,λb o e hx=>?_,I1.base.tups,I1.base.frzs,I1.base.tbls⟩,⟨_,hn2,λj y v' e1 e2 e3=>?_⟩,λy c e=>?_,I1.free,I1.freeC,λp hp=>?_,λa u ha=>?_,by rw[length_set];exact I.len⟩
 .exact(hs2.2 b (nw (nb (ss e) I1.ok.above))).trans (I1.base.keep b o e n hb hx)
 .obtain⟨sl,q⟩:=I1.base.slot b o e n hb hx;exact⟨sl,(hs2.2 b (nw (nb (ss e) I1.ok.above))).trans q⟩
 .obtain⟨o',q⟩:=I1.base.there b o e hx;exact⟨o',(hs2.2 b (nw (nb (ss e) I1.ok.above))).trans q⟩
 .have hj:j≠i:=λz=>by rw[z,getElem?_set_self hiσ]at e2;cases e2
  rw[getElem?_set_ne (Ne.symm hj)]at e2;obtain⟨u,r,q⟩:=hl j y v' e1 (by rw[getElem?_set_ne (Ne.symm hj)];exact e2) e3;refine⟨u,r,?_⟩;rcases q with⟨k,e⟩|⟨k,c,e,z⟩
  .refine .inl ⟨k,?_⟩;have ny:y≠n:=λz=>hj (gi hN e1 (z▸hi))
   show(if y=n then v else m y)=some u;rw[if_neg ny];exact e
  .exact .inr ⟨k,c,e,z.sameBut hs2 (pT y c e)⟩
 .obtain⟨w',z⟩:=I1.cell y c e;exact⟨w',z.sameBut hs2 (pT y c e)⟩
 .obtain⟨e,n,ne,nf,d⟩:=I1.pin p hp;exact⟨(hs2.2 p.1 ne).trans e,n,ne,nf,d⟩
 .refine(I1.hok a u ha).du (λb o hb hq=>(hs2.2 b ?_).trans hq) (λ_ q=>q) λ_ _ q=>q
  rintro rfl;rcases hb with hb|hb
  .rw[<-hb,I1.free]at ha;cases ha
  .rw[I1.free]at hb;cases hb
def jP {n x:Str}{np hpos:Pos}{b0:Stmt}{aK:List Stmt}{rest:List ExceptHandler}{i:Nat}{D:Ends}{e C Ch T:Addr}{fs:List (Str×V)}{b:Bool}(I:Inv X Y U H s)(he:H e=some (.exc C dx fs false))
  (hT:X.s₀.heap.objs.size<=T) (hH:H T=none) (hp:∀ p ∈ X.pn++Y,p.1≠T) (st:uj s.heap e T .none) (c:bj X.K C) (ch:bj X.K Ch) (hsub:W.mroIn X.K C (.ref Ch)=some b) (hg:Gl X x) (hm:X.mg x=some (.ref Ch))
  (hN:X.N.Nodup) (hi:X.N[i]? =some n) (hn:X.env.scope.names.lookup n=some .local) (hdb:(x ==("__debug__":Str))=false)
  (yes:b=true->∀ s2,Inv (X.aK (.ref e)) Y (U.set i (some (.ref e))) H s2->wpAny (model X.prog X.w) (X.A.mark (some (.ref e))) (execs (b0::aK) X.env)
   (SP (X.aK (.ref e)) Y { nx:=λσ' H'=>D.nx (σ'.set i none) H',rt:=D.rt,bk:=λσ' H'=>D.bk (σ'.set i none) H',ct:=λσ' H'=>D.ct (σ'.set i none) H' }) (λ_ _=>False) s2)
  (no:b=false->wpAny (model X.prog X.w) X.A (handleBy (.ref e) X.env rest) (SP X Y D) X.xe s):
  wpAny (model X.prog X.w) X.A (handleBy (.ref e) X.env (.ExceptHandler (some (.Name x np)) (some n) (b0::aK) hpos::rest)) (SP X Y D) X.xe s:=by
 have I':=I.aK (.ref e);refine wpAny_handleBy_cons (codeAny_handlers_test (aN (X:=X.aK (.ref e)) I' hg hm ?_ hdb)) (by intro q;cases q);obtain⟨⟨vs,ho,hsz,h1⟩,z⟩:=id (I.hok e _ he);have L0:Looks (model X.prog X.w) s.heap (typeOf (.ref e)) (.ref C):=(Looks.ld ho).andThen .now;have L1:Looks (model X.prog X.w) s.heap (typeOf (.ref Ch)) (.type "type"):=looks_typeIn I.aT ch.mt;have L2':Looks (model X.prog X.w) s.heap (isInstance (.ref Ch) (.type "tuple")) false:=L1.andThen (Looks.of_pure tc_notTuple);have L3:Looks (model X.prog X.w) s.heap (isType (.ref Ch)) true:=by
  obtain⟨cd,rs,hcl,_⟩:=ch.mro;unfold W.clsIn at hcl
  split at hcl
  .rename_i ho';intro A' Q' E' s' k q;unfold isType loadHead;exact ad (wpAny_loadPart (k _ _ (I.aT _ _ ho')) (am q))
  .cases hcl
 have L4:Looks (model X.prog X.w) s.heap (isSubtype (.ref Ch) (.type "BaseException")) true:=looks_mroIn I.aT (ch.sub (by decide+kernel));have L5:Looks (model X.prog X.w) s.heap (isSubtype (.ref C) (.ref Ch)) b:=looks_mroIn I.aT hsub;have L6:Looks (model X.prog X.w) s.heap (isExcClass (.ref Ch)) true:=by
  unfold isExcClass;exact L3.andThen L4
 unfold excMatches;refine ad (L2'.here ?_);rw[if_neg (by decide)];refine ad (am ?_);simp only[forIn_cons,forIn_nil];refine ad (ad (ad (L6.here ?_)));rw[if_neg (by decide)];refine am ?_;refine am ?_;refine ad (L0.here ?_);refine ad (ad (ad (L5.here ?_)));cases b with
 |false=>
  rw[if_neg (by decide)];refine am ?_;refine am ?_;refine am ?_;exact no rfl
 |true=>
  rw[if_pos rfl];refine am ?_;refine am ?_;refine am ?_;refine codeAny_handlers_suite_as (lP st λh2 lQ oth _ th2 _=>?_);have I2:Inv X Y U H { s with heap:=h2 }:=by
   refine Inv.turned (it:=T) (h':=h2) (t':=s.toks) I (λb o hb hq=>(oth b hb).trans hq) hH ?_ (.inr hT) (λy cc hc z=>?_) hp
   .intro z;obtain⟨m,⟨o,es,ep,ho',hd,_⟩,_⟩:=I.loc;obtain⟨_,_,oT,ts,_,_,_,_,hT2,hd2,_⟩:=st;rw[z,ho']at hT2;cases hT2;rw[hd]at hd2;cases hd2
   .obtain⟨v,o,ho',hd⟩:=I.cell y cc hc;obtain⟨_,_,oT,ts,_,_,_,_,hT2,hd2,_⟩:=st;rw[<-z,ho']at hT2;cases hT2;rw[hd]at hd2;cases hd2
  refine cF (X:=X.aK (.ref e)) (I2.aK (.ref e)) hN hi (.inl hn) (v:=.ref e) rfl (λs3 I3=>?_) (.inr hn);refine wpAny_mono (yes rfl s3 I3) (λf s4 h4=>?_) λ_ _ z=>z.elim
  cases f with
  |next=>
   obtain⟨σ',H',J,q⟩:=h4;exact cO (J.fJ I.ok) hN hi hn λs5 J5=>⟨_,H',J5,q⟩
  |brk=>
   obtain⟨σ',H',J,q⟩:=h4;exact cO (J.fJ I.ok) hN hi hn λs5 J5=>⟨_,H',J5,q⟩
  |cont=>
   obtain⟨σ',H',J,q⟩:=h4;exact cO (J.fJ I.ok) hN hi hn λs5 J5=>⟨_,H',J5,q⟩
  |ret u=>
   obtain⟨v,σ',H',J,r,q⟩:=h4;exact cO (J.fJ I.ok) hN hi hn λs5 J5=>⟨v,_,H',J5,r,q⟩
end
end L2
namespace L2
open PySem PySem.Spec PyProof.Rows
def qd:bootBuiltins "isinstance"=some (.builtin "isinstance"):=by decide+kernel
section
variable {X:Cx}
abbrev zR (K:W.Frag):V->V->Hp->VK->Prop:=λx y H Q=>∃ p xs i v,x=.ref p/\y=.int i/\aA K H p xs/\0<=i/\xs[i.toNat]? =some v/\Q v H
def pv:wV X (zR X.K):=by
 intro Y s U H o i ov iv Q I ro ri h;obtain⟨p,xs,k,z,rfl,rfl,hq,h0,he,q⟩:=h;cases ro;obtain⟨t,rfl⟩:=ri;obtain⟨its,r,pl,hz⟩:=I.list hq;obtain⟨w,ew,rw'⟩:=r.get he;have hl:k.toNat<xs.length:=(re.mp he).1;have hn:=de;exact wpAny_getItem_list pl.isList h0 nofun (by simpa using ew) ⟨z,H,I,rw',q⟩
def fu {xs:List V}{us:List Value}(r:Vals xs us){j:Nat}(h:j<us.toArray.size):∃ x,xs[j]? =some x/\RelV x (us.toArray[j]):=by
 have hl:=r.length;have hj:j<us.length:=by simpa using h
 have e:xs[j]? =some xs[j]:=lf nofun;obtain⟨u,h1,h2⟩:=r.get e;refine⟨_,e,?_⟩;rw[lf hj]at h1;cases h1;simpa using h2
end
section
variable {U:St}{H:Hp}{Q:VK}{D:Ends}{K:W.Frag}
abbrev mL (x:V)(H:Hp)(R:Bool->Hp->Prop):Prop:=∃ k,x=.bl k/\R k H
def cC {α:Type}{xs:List α}{i:Int}(h0:0<=i)(h1:i<xs.length):∃ v,eP xs i=some v/\v ∈ xs:=by
 obtain⟨n,rfl⟩:=Int.eq_ofNat_of_zero_le h0;have hn:n<xs.length:=by omega
 exact⟨xs[n],dw (lf hn),List.getElem_mem hn⟩
end
section
variable {K:W.Frag}{g:TG}{tb:TS}{D:Ends}{U:St}{H:Hp}{tl:TE}{ta:TA}
end
def fits {n:Nat}(h:n<=1000):n<=bn:=Nat.le_of_lt (bK h)
section
variable {X:Cx}{H:Hp}{Q:VK}
end
section
variable {K:W.Frag}
end
section
variable {H H':Hp}{h c p:Addr}{m n:Int}{o:HO}
end
def Aj (ns:List Int)(h:ns.length<=63):jR (ns.map V.int) none (some 63)=ns.map V.int:=by
 have e1:HT.jM (ns.map V.int).length 0 none=0:=rfl;have e2:HT.jM (ns.map V.int).length (ns.map V.int).length (some 63)=(ns.map V.int).length:=by
  show(if(63:Int)<0 then((63:Int)+((ns.map V.int).length:Int)).toNat else min (63:Int).toNat (ns.map V.int).length)=(ns.map V.int).length;rw[if_neg (by decide),ce];show min 63 ns.length=ns.length
  omega
 unfold jR;rw[e1,e2,drop_zero,Nat.sub_zero,List.take_length]
variable {ns:List Int}
def lH {i:Nat}{x:V}(h:(ns.map V.int)[i]? =some x):∃ z,x=V.int z:=by
 rw[io]at h;cases e:ns[i]? with
 |none=>rw[e]at h;cases h
 |some z=>rw[e]at h;exact⟨z,(Option.some.inj h).symm⟩
def qi {i:Int}(h0:0<=i)(h1:i<ns.length):∃ z,eP (ns.map V.int) i=some (.int z):=by
 obtain⟨v,a,m⟩:=cC (xs:=ns.map V.int) h0 (by rw[ce];exact h1);obtain⟨z,_,rfl⟩:=List.mem_map.mp m;exact⟨z,a⟩
section
variable {H:Hp}{Q:VK}
end
section
variable {X:Cx}
end
variable {A:Around}{E:CC}{s:Shared}
def vd {α:Type}{t:Sem α}{Q Q':α->Shared->Prop}{M:Model}(h:wpAny M A t Q (λ_ _=>False) s) (hQ:∀ a s,Q a s->Q' a s):wpAny M A t Q' E s:=wpAny_mono h hQ λ_ _ x=>x.elim
abbrev c6 (X:Cx)(scope:Scope)(cl:List (Str×Addr))(N:List Str)(s:Shared)(H:Hp)(fp:List Addr):Cx:=
 { X with N:=N,s₀:=s,H₀:=H,env:=compEnvC scope cl s.heap.objs.size X.env,outer:=X.stack,stack:=X.stack,ex:=fp,fn:=λ_=>false,pn:=[],xe:=λ_ _=>False }
structure aI (X:Cx) (scope:Scope) (cl:List (Str×Addr)) (xs:List Str) (fr:List Str) (sel:List Nat):Prop where
 clos:closureFor scope X.env=pure cl
 sub:∀ y c,cl.lookup y=some c->X.env.cells.lookup y=some c
 has:∀ y,((relabel scope X.env).names.lookup y=some .cell\/(relabel scope X.env).names.lookup y=some .free)->∃ c,cl.lookup y=some c
 kind:scope.kind=.function
 nocell:∀ y ∈ scope.names,y.2≠.cell
 names:∀ y ∈ scope.names,y.2=.local->scope.names.lookup y.1=some .local
 own:∀ x ∈ xs,scope.names.lookup x=some .local
 len:sel.length=fr.length
 out:∀ (j:Nat) (y:Str),fr[j]? =some y->∃ i,sel[j]? =some i/\X.N[i]? =some y/\X.env.scope.names.lookup y=some .cell/\(relabel scope X.env).names.lookup y=some .cell
 nd:(xs++fr).Nodup
abbrev dA (U:St)(sel:List Nat):St:=sel.map λi=>U.getD i none
abbrev LC (te:TE)(J:It)(σ₀:St)(H1:Hp)(Q:VK):Prop:=∀ D,H1 D=none->∃ W:Nat->Nat->St->Hp->Prop,(∃ m,W 0 m σ₀ (upd H1 D (.lst [])))/\∀ i m σ' H',W i m σ' H'->
 (J.stop i H'/\Q (.ref D) H')\/(J.go i H'/\∃ N:St->Hp->Prop,(∀ σ2 H2,N σ2 H2->∃ m',m'<m/\W (i+1) m' σ2 H2)/\
  ∀ x H'',J.yld i H' x H''->te (σ'.set 0 (some x)) H'' λv H3=>∃ zs,H3 D=some (.lst zs)/\zs.length<bn/\N (σ'.set 0 (some x)) (upd H3 D (.lst (zs++[v]))))
abbrev gate (env:Env):List Expr->Sem Bool
 | []=>pure true
 |c::_=>isTrue c env (eval c env)
variable {ifs:List Expr}{scope:Scope}{pos:Pos}
def mM {M:Model}{elt target iter:Expr}{it acc:Value}{env:Env}{Q:PySem.Fin->Shared->Prop}(hi:ifs.length<=1)
  (h:wpAny M A (pyNext it) (λr s1=>match r with
   |none=>Q (.done .next) s1
   |some v=>wpAny M A (letOwnedTupleGo target it v) (λ_ s2=>wpAny M A (assign target env v) (λ_ s3=>wpAny M A (gate env ifs) (λok s4=>
    (ok=true->wpAny M A (eval elt env) (λx s5=>wpAny M A (call (.builtin "list.append") [acc,x]) (λ_ s6=>wpAny M A (again (.compLoop (.ListComp elt [⟨target,iter,ifs,0⟩] scope pos) 0 it acc env)) Q E s6) E s5) E s4)/\
    (ok=false->wpAny M A (again (.compLoop (.ListComp elt [⟨target,iter,ifs,0⟩] scope pos) 0 it acc env)) Q E s4)) E s3) E s2) E s1) E s):
  wpAny M A (compTurn (.ListComp elt [⟨target,iter,ifs,0⟩] scope pos) 0 it acc env) Q E s:=by
 have key:∀ {g:Sem Bool}{K:Sem PySem.Fin}{s:Shared},wpAny M A g (λok s4=>
    (ok=true->wpAny M A (eval elt env) (λx s5=>wpAny M A (call (.builtin "list.append") [acc,x]) (λ_ s6=>wpAny M A K Q E s6) E s5) E s4)/\
    (ok=false->wpAny M A K Q E s4)) E s->wpAny M A (g >>= λok=>if ok=true then(eval elt env >>= λx=>call (.builtin "list.append") [acc,x] >>= λ_=>pure ()) >>= λ_=>K else K) Q E s:=λ{g K s} h=>by
  refine ad (wpAny_mono h (λok s4 h4=>?_) λ_ _ e=>e);cases ok with
  |false=>exact h4.2 rfl
  |true=>exact ad (ad (wpAny_mono (h4.1 rfl) (λx s5 h5=>ad (wpAny_mono h5 (λ_ s6 h6=>am h6) λ_ _ e=>e)) λ_ _ e=>e))
 match ifs,hi with
 | [],_=>
  rw[compTurn_list1];refine ad (wpAny_standAt (ad (wpAny_mono h (λr s1 h1=>?_) λ_ _ e=>e)));cases r with
  |none=>exact am h1
  |some v=>
   refine ad (wpAny_mono h1 (λ_ s2 h2=>ad (wpAny_mono h2 (λ_ s3 h3=>?_) λ_ _ e=>e)) λ_ _ e=>e);exact key (g:=pure true) h3
 | [c],_=>
  unfold compTurn;simp only[List.getElem?_cons_zero,List.getElem?_cons_succ,List.getElem?_nil];dsimp only[forIn,List.forIn',List.forIn'.loop,forIn'];rw[if_neg (by decide),if_neg (by decide)];refine ad (wpAny_standAt (ad (wpAny_mono h (λr s1 h1=>?_) λ_ _ e=>e)));cases r with
  |none=>exact am h1
  |some v=>
   refine ad (wpAny_mono h1 (λ_ s2 h2=>ad (wpAny_mono h2 (λ_ s3 h3=>?_) λ_ _ e=>e)) λ_ _ e=>e);refine key ?_;rw[if_pos rfl];refine ad (ad (wpAny_mono h3 (λok s4 h4=>am ?_) λ_ _ e=>e));exact am h4
abbrev LCg (tg:TG)(tc:TT)(te:TE)(J:It)(σ₀:St)(H1:Hp)(Q:VK):Prop:=∀ D,H1 D=none->∃ W:Nat->Nat->St->Hp->Prop,(∃ m,W 0 m σ₀ (upd H1 D (.lst [])))/\∀ i m σ' H',W i m σ' H'->
 (J.stop i H'/\Q (.ref D) H')\/(J.go i H'/\∃ N:St->Hp->Prop,(∀ σ2 H2,N σ2 H2->∃ m',m'<m/\W (i+1) m' σ2 H2)/\
  ∀ x H'',J.yld i H' x H''->tg x σ' H'' λσ2 H2=>tc σ2 H2 λb H3=>(b=true->te σ2 H3 λv H4=>∃ zs,H4 D=some (.lst zs)/\zs.length<bn/\N σ2 (upd H4 D (.lst (zs++[v]))))/\(b=false->N σ2 H3))
abbrev yes:TT:=λ_ H Q=>Q true H
variable {te:TE}
def LC.g {J:It}{σ₀:St}{H1:Hp}{Q:VK}(h:LC te J σ₀ H1 Q):LCg (dn 0) yes te J σ₀ H1 Q:=λD hD=>by
 obtain⟨W,w0,turn⟩:=h D hD;refine⟨W,w0,λi m σ' H' w=>?_⟩;rcases turn i m σ' H' w with z|⟨go,N,hN,step⟩
 .exact .inl z
 .exact .inr ⟨go,N,hN,λx H'' y=>⟨λ_=>step x H'' y,λe=>nomatch e⟩⟩
abbrev Ao (X:Cx)(ifs:List Expr)(tc:TT):Prop:=ifs.length<=1/\∀ (Y:CD) (s:Shared) (U:St) (H:Hp) (Q:Bool->Hp->Prop),Inv X Y U H s->tc U H Q->wpAny (model X.prog X.w) X.A (gate X.env ifs) (TP X Y U Q) X.xe s
variable {X:Cx}
def iH:Ao X [] yes:=⟨Nat.zero_le _,λY s U H Q I q=>am ⟨H,I,q⟩⟩
def mF {c:Expr}{tc:TT}(h:PT X c tc):Ao X [c] tc:=⟨ol _,h⟩
abbrev jU (xs:List Str):St:=xs.map λ_=>none
abbrev BO (wi:TI)(te:TE)(sel:List Nat):TE:=λU H Q=>wi U H λJ H1=>LC te J (none::dA U sel) H1 Q
abbrev yC (wi:TI)(tg:TG)(tc:TT)(te:TE)(xs:List Str)(sel:List Nat):TE:=λU H Q=>wi U H λJ H1=>LCg tg tc te J (jU xs++dA U sel) H1 Q
variable {cl:List (Str×Addr)}{xs fr:List Str}{sel:List Nat}{fp:List Addr}
section
variable {X:Cx}
def Un.sameBut {fs ex:List Addr}{H H':Hp}{h h1 h2:Heap}{C:Addr}(u:Un fs ex H H' h h1)(hs:Heap.SameBut C h1 h2)(hC:h.objs.size<=C):Un fs ex H H' h h2:=by
 have ne:∀ b o,h.get? b=some o->b≠C:=λb o e=>nw (nb (ss e) hC)
 refine⟨λb o e n hb hx=>(hs.2 b (ne b o e)).trans (u.keep b o e n hb hx),λb o e n hb hx=>?_,u.free,λb o e hx=>?_,u.tups,u.frzs,u.tbls⟩
 .obtain⟨sl,q⟩:=u.slot b o e n hb hx;exact⟨sl,(hs.2 b (ne b o e)).trans q⟩
 .obtain⟨o',q⟩:=u.there b o e hx;exact⟨o',(hs.2 b (ne b o e)).trans q⟩
def jh {Y:CD}{U:St}{H:Hp}{h':Heap}{tk:Nat}{m':CF}
  (S:aI X scope cl xs fr sel) (I:Inv X Y U H s) (f2:∀ b ∈ fp,gj X Y H b) (fo:∀ b ∈ fp,b<s.heap.objs.size) (hns:h'.Ns s.heap.objs.size m') (keep:∀ b o,s.heap.get? b=some o->h'.get? b=some o):
  Inv (c6 X scope cl (xs++fr) s H fp) (X.pn++Y) (jU xs++dA U sel) H { s with heap:=h',toks:=tk }:=by
 have stk:∀ b,b≠X.env.locals->b ∉ X.fs->b ∉ iY X.stack:=λb h1 h2 hb=>(lv.mp (I.d9 b hb)).elim h1 h2
 refine⟨⟨I.ok.mod,S.kind,I.ok.glob,I.ok.blt,ol _,λy z c h1 h2=>I.ok.inj y z c (S.sub y c h1) (S.sub z c h2),λy hy=>S.has y hy,(λy c h=>nomatch h),I.ok.hd,I.ok.frames,.inl rfl,λb hb=>⟨nw (fo b hb),λy c h=>(f2 b hb).2.2.2.2.1 y c (S.sub y c h)⟩,I.bs,
  Nat.le_trans I.ok.bsz I.sz,λb o e hb=>?_,λb hb=>stk b (f2 b hb).2.1 (f2 b hb).2.2.1,I.stack,I.iu⟩,
  rfl,I.bare,Un.kept keep,⟨m',hns,λi y v e1 e2 e3=>?_⟩,λy c h=>?_,I.hok.fresh (ol _),λy c h=>I.freeC y c (S.sub y c h),λp hp=>?_,I.hok.kept keep,?_⟩
 .rcases(f2 b hb).2.2.2.1 with z|z
  .exact I.ok.noex b o e z
  .exact absurd (nb (nb (ss e) I.ok.bsz) z) (Nat.lt_irrefl _)
 .have hln:(jU xs).length=xs.length:=ce ..
  by_cases hlt:i<xs.length
  .rw[getElem?_append_left (by rw[hln];exact hlt)]at e2;unfold jU at e2;rw[io,lf hlt]at e2;cases e2
  .obtain⟨j,rfl⟩:∃ j,i=xs.length+j:=⟨i-xs.length,by omega⟩;have e1':fr[j]? =some y:=by
    have e1:(xs++fr)[xs.length+j]? =some y:=e1;rw[getElem?_append_right nofun,show xs.length+j-xs.length=j by omega]at e1;exact e1
   obtain⟨i,hi,hN,k1,k2⟩:=S.out j y e1';have e2':(dA U sel)[j]? =some (some v):=by
    rw[getElem?_append_right (by rw[hln];omega),hln,show xs.length+j-xs.length=j by omega]at e2;exact e2
   have e4:U[i]? =some (some v):=by
    unfold dA at e2';rw[io,hi]at e2';have e5:U.getD i none=some v:=Option.some.inj e2';rw[List.getD_eq_getElem?_getD]at e5;cases e6:U[i]? with
    |none=>rw[e6]at e5;cases e5
    |some z=>rw[e6]at e5;exact congrArg some e5
   obtain⟨m,hn,hl⟩:=I.loc;obtain⟨u,r,l⟩:=hl i y v hN e4 (.inr (.inl k1));refine⟨u,r,.inr ⟨.inl k2,?_⟩⟩;rcases l with⟨hk,_⟩|⟨_,c,hc,o,ho,hd⟩
   .have hk':X.env.scope.names.lookup y=some .local:=hk;rw[k1]at hk';cases hk'
   .obtain⟨c',hc'⟩:=S.has y (.inl k2);have:=(S.sub y c' hc').symm.trans hc;cases this;exact⟨c,hc',o,keep c o ho,hd⟩
 .obtain⟨v,o,ho,hd⟩:=I.cell y c (S.sub y c h);exact⟨v,o,keep c o ho,hd⟩
 .obtain⟨e,n,ne,nf,d⟩:=I.pin p (by simpa[c6] using hp);exact⟨keep p.1 p.2 e,n,nw (ss e),stk p.1 ne nf,d⟩
 .show(jU xs++dA U sel).length=(xs++fr).length;unfold dA jU;simp[S.len]
def hG {elt iter tgt:Expr}{wi:TI}{tg:TG}{tc:TT}(hc:X.calm=true)(S:aI X scope cl xs fr sel)(hi:PI X tgt iter wi)
  (hg:∀ (s:Shared) (H:Hp) (fp:List Addr),PG (c6 X scope cl (xs++fr) s H fp) tgt tg) (ht:∀ (s:Shared) (H:Hp) (fp:List Addr),Ao (c6 X scope cl (xs++fr) s H fp) ifs tc)
  (he:∀ (s:Shared) (H:Hp) (fp:List Addr),PE (c6 X scope cl (xs++fr) s H fp) elt te) (hs:∀ x,foldedSetIterable iter X.env x=pure x):PE X (.ListComp elt [⟨tgt,iter,ifs,0⟩] scope pos) (yC wi tg tc te xs sel):=by
 intro Y s U H Q I h;rw[eval_ListComp];refine wpAny_comprehension_free (use:=none) rfl hs S.clos S.kind S.names ?_;refine ar (hi Y s U H _ I h) λv s1 h1=>ar h1 λitv s2 h2=>?_
 obtain⟨it,fp,tn,J,H2,e,I2,T,lQ,f2,h2⟩:=h2;subst e;refine wpAny_newObj_type ?_;have hD:H2 s2.heap.objs.size=none:=I2.hok.fresh (ol _);have I3:Inv X Y U (upd H2 s2.heap.objs.size (.lst [])) { s2 with heap:=s2.heap.push { cls:=.type "list",dict:=none,data:=.seq ([]:List Value).toArray } }:=
  I2.laid (t':=s2.toks) (λb u e=>sn _ e) (ol _) ⟨Nat.zero_le _,[],0,.nil,sw _ rfl⟩
 have fo2:∀ b ∈ fp,b<s2.heap.objs.size:=λb hb=>by
  obtain⟨o,ho,_⟩:=T.obj _ _ lQ b hb;exact ss ho
 have f3:∀ b ∈ fp,gj X Y (upd H2 s2.heap.objs.size (.lst [])) b:=λb hb=>⟨by rw[af (nw (fo2 b hb))];exact(f2 b hb).1,(f2 b hb).2⟩
 have st3:tn 0 (s2.heap.push { cls:=.type "list",dict:=none,data:=.seq ([]:List Value).toArray }):=T.keep _ _ _ lQ λb hb o e=>sn _ e
 have fo3:∀ b ∈ fp,b<(s2.heap.push { cls:=.type "list",dict:=none,data:=.seq ([]:List Value).toArray }).objs.size:=λb hb=>by
  rw[Heap.size_push];exact Nat.lt_succ_of_lt (fo2 b hb)
 obtain⟨W,⟨m0,w0⟩,turn⟩:=h2 _ hD;generalize s2.heap.objs.size=D at*;generalize hs3:({ s2 with heap:=s2.heap.push { cls:=.type "list",dict:=none,data:=.seq ([]:List Value).toArray } }:Shared)=s3 at*;have st3':tn 0 s3.heap:=by rw[<-hs3];exact st3
 have fo3':∀ b ∈ fp,b<s3.heap.objs.size:=by rw[<-hs3];exact fo3
 refine wpAny_newFunctionEnv S.nocell (by intro y hy;simp at hy) (λh' hns hsb=>?_) S.kind;have keep:∀ b o,s3.heap.get? b=some o->h'.get? b=some o:=λb o e=>(hsb.2 b (nw (ss e))).trans (sn _ e)
 have I4:=jh (tk:=s3.toks+([]:List (Str×Value)).length) S I3 f3 fo3' hns keep;have st4:tn 0 h':=T.keep _ _ _ st3' λb hb o e=>keep b o e
 have stat:∀ {H':Hp},(∀ b ∈ fp,H' b=none)->∀ b ∈ fp,gj (c6 X scope cl (xs++fr) s3 (upd H2 D (.lst [])) fp) (X.pn++Y) H' b:=λ{H'} hn b hb=>
  ⟨hn b hb,nw (fo3' b hb),λz=>(lv.mp (I3.d9 b z)).elim (f3 b hb).2.1 (f3 b hb).2.2.1,.inl hb,λy c hy=>(f3 b hb).2.2.2.2.1 y c (S.sub y c hy),λp hp=>(f3 b hb).2.2.2.2.2 p (by simpa[c6] using hp)⟩
 have loop:codeAny (model X.prog X.w) X.A (.compLoop (.ListComp elt [⟨tgt,iter,ifs,0⟩] scope pos) 0 (.ref it) (.ref D) (compEnvC scope cl s3.heap.objs.size X.env))
   (compPost (model X.prog X.w) X.A X.xe none (EP X Y U Q) (.ref D) s3.heap.objs.size) { s3 with heap:=h',toks:=s3.toks+([]:List (Str×Value)).length }:=by
  refine codeAny_loop rfl (λn s'=>∃ i σ' H',Inv (c6 X scope cl (xs++fr) s3 (upd H2 D (.lst [])) fp) (X.pn++Y) σ' H' s'/\tn i s'.heap/\(∀ b ∈ fp,H' b=none)/\W i n σ' H') (λn s5 hI=>?_) m0 ⟨0,_,_,I4,st4,λb hb=>(f3 b hb).1,w0⟩;show wpAny _ _ ((compTurn (.ListComp elt [⟨tgt,iter,ifs,0⟩] scope pos) 0 (.ref it) (.ref D) (compEnvC scope cl s3.heap.objs.size X.env)).onRaise (λx=>do noteFrame x (compEnvC scope cl s3.heap.objs.size X.env);theTreesLotGoes x)) _ _ s5;refine wpAny_noted ?_;refine mM (ht s3 (upd H2 D (.lst [])) fp).1 ?_;obtain⟨i,σ5,H5,I5,st5,fr5,w5⟩:=hI;rcases turn i n σ5 H5 w5 with⟨stop,q⟩|⟨go,Nn,hN,step⟩
  .refine ar (T.done (c6 X scope cl (xs++fr) s3 (upd H2 D (.lst [])) fp) rfl rfl rfl hc i _ s5 σ5 H5 _ I5 (stat fr5) st5 stop) λr s6 ⟨hr,I6⟩=>?_
   subst hr;obtain⟨m,hn,_⟩:=I6.loc;refine⟨m,hn,λh'' hs''=>⟨.ref D,H5,I3.qq (ch:=fp) I6.os (I6.base.sameBut hs'' (ol _)) (λb ob e=>?_) I6.bare λb hb=>⟨(f3 b hb).2.2.2.1,(f3 b hb).2.1,(f3 b hb).2.2.2.2.1,(f3 b hb).2.2.2.2.2⟩,rfl,q⟩⟩;refine(I6.hok b ob e).du (λc w' hc' q'=>(hs''.2 c ?_).trans q') (λ_ q'=>q') λ_ _ q'=>q'
   have fC:H5 s3.heap.objs.size=none:=I6.free;intro z;rcases hc' with z2|z2
   .rw[z2]at z;rw[z,fC]at e;cases e
   .rw[z,fC]at z2;cases z2
  .have fin:∀ {σ8:St}{H10:Hp}{s10:Shared},Inv (c6 X scope cl (xs++fr) s3 (upd H2 D (.lst [])) fp) (X.pn++Y) σ8 H10 s10/\tn (i+1) s10.heap/\(∀ b ∈ fp,H10 b=none)->Nn σ8 H10->∃ m',m'<n/\∃ i σ' H',Inv (c6 X scope cl (xs++fr) s3 (upd H2 D (.lst [])) fp) (X.pn++Y) σ' H' s10/\tn i s10.heap/\(∀ b ∈ fp,H' b=none)/\W i m' σ' H':=λ⟨I,t,f⟩ nn=>by
    obtain⟨m',hm,w10⟩:=hN _ _ nn;exact⟨m',hm,i+1,_,_,I,t,f,w10⟩
   refine ar (T.item (c6 X scope cl (xs++fr) s3 (upd H2 D (.lst [])) fp) rfl rfl rfl hc i _ s5 σ5 H5 _ I5 (stat fr5) st5 go) λr s6 ⟨u,hr,h6⟩=>?_
   subst hr;refine ar h6 λ_ s7 ⟨xv,H7,I7,r7,y7,st7,fr7⟩=>?_
   have I7':=I7.pinned (stat fr7) (T.obj _ _ st7);refine vd (hg s3 _ fp _ s7 σ5 H7 xv u _ I7' r7 (step xv _ y7)) λ_ s8 ⟨σ8,H8,I8,q8⟩=>?_
   refine vd ((ht s3 _ fp).2 _ s8 σ8 H8 _ I8 q8) λok s9 ⟨H9,I9,q9⟩=>?_
   have back:∀ {H10:Hp}{s10:Shared},Inv (c6 X scope cl (xs++fr) s3 (upd H2 D (.lst [])) fp) _ σ8 H10 s10->Inv (c6 X scope cl (xs++fr) s3 (upd H2 D (.lst [])) fp) (X.pn++Y) σ8 H10 s10/\tn (i+1) s10.heap/\(∀ b ∈ fp,H10 b=none):=λ{H10 s10} I10=>⟨I10.cq,T.keep _ _ _ st7 λb hb o e=>(I10.pin (b,o) (ii _ (ii _ (aQ hb e)))).1,λb hb=>by
    obtain⟨o,e,d⟩:=T.obj _ _ st7 b hb;exact(I10.pin (b,o) (ii _ (ii _ (aQ hb e)))).2.1⟩
   refine⟨λek=>?_,λek=>am ⟨rfl,fin (back I9) (q9.2 ek)⟩⟩;refine vd (he s3 _ fp _ s9 _ _ _ I9 (q9.1 ek)) λuv s10 ⟨vv,H10,I10,r10,zs,hz,hzl,n10⟩=>?_
   refine vd (eg (X:=c6 X scope cl (xs++fr) s3 (upd H2 D (.lst [])) fp) _ s10 _ H10 (.ref D) [vv] (.ref D) [uv] (λ_ H'=>H'=upd H10 D (.lst (zs++[vv]))) I10 rfl (.cons r10 .nil) ⟨D,zs,vv,rfl,rfl,hz,hzl,rfl⟩) λ_ s11 ⟨_,H11,I11,_,e11⟩=>?_
   subst e11;exact am ⟨rfl,fin (back I11) n10⟩
 exact codeAny_compStart_list loop (T.self _ 0 _ _ _ st4 loop)
def iy {x:Str}{px:Pos}{H:Hp}(S:aI X scope cl [x] fr sel):PG (c6 X scope cl ([x]++fr) s H fp) (.Name x px) (dn 0):=dR S.nd rfl (.inl (lookup_relabel_local (S.own x (li ..)))) (.inr (lookup_relabel_local (S.own x (li ..))))
abbrev Cj (wi:TI):TI:=λU H R=>∃ R0:It->Hp->Prop,wi U H R0/\∀ J H,R0 J H->R J H
def PI.up {tg iter:Expr}{wi:TI}(h:PI X tg iter wi):PI X tg iter (Cj wi):=λY s U H R I ⟨R0,q,m⟩=>
 ar (h Y s U H R0 I q) λv s1 h1=>wpAny_mono h1 (λitv s2 ⟨it,fp,tn,J,H',e,I,T,t0,f,r⟩=>⟨it,fp,tn,J,H',e,I,T,t0,f,m _ _ r⟩) λ_ _ e=>e
def qo {elt iter:Expr}{x:Str}{px:Pos}{wi:TI}(hc:X.calm=true)(S:aI X scope cl [x] fr sel)(hi:PI X (.Name x px) iter wi)
  (he:∀ (s:Shared) (H:Hp) (fp:List Addr),PE (c6 X scope cl (x::fr) s H fp) elt te) (hs:∀ x,foldedSetIterable iter X.env x=pure x):PE X (.ListComp elt [⟨.Name x px,iter,[],0⟩] scope pos) (BO wi te sel):=λY s U H Q I h=>
 hG (tg:=dn 0) hc S hi.up (λs H fp=>iy S) (λ_ _ _=>iH) he hs Y s U H Q I ⟨_,h,λ_ _ q=>q.g⟩
end
section
variable {U:St}{H:Hp}{Q:VK}{te tl:TE}{ta:TA}{sel:List Nat}{σ₀ rest:St}{K:W.Frag}
end
def bO {env:Env}:∀ {names:List (Str×NameKind)}{y:Str}{k':NameKind},(names.map λ(n,k)=>if(k ==NameKind.free&&env.scope.kind ==.function&&env.kindOf n ==some .cell) then(n,NameKind.cell) else(n,k)).lookup y=some k'->∃ k,(y,k) ∈ names/\(k'=k\/(k=.free/\k'=.cell))
 | [],_,_,h=>by simp at h
 |(n,k)::r,y,k',h=>by
  rw[map_cons,lookup_cons]at h
  by_cases hc:(k ==NameKind.free&&env.scope.kind ==.function&&env.kindOf n ==some .cell)=true
  .simp only[hc,if_true]at h
   by_cases e:y=n
   .subst e;simp at h;simp at hc;exact⟨k,li,.inr ⟨hc.1.1,h.symm⟩⟩
   .rw[show(y ==n)=false from beq_eq_false_iff_ne.mpr e]at h;obtain⟨k2,m,q⟩:=bO (env:=env) h;exact⟨k2,dl _ m,q⟩
  .rw[Bool.not_eq_true]at hc;simp only[hc,Bool.false_eq_true,if_false]at h
   by_cases e:y=n
   .subst e;simp at h;exact⟨k,li,.inl h.symm⟩
   .simp only[show(y ==n)=false from beq_eq_false_iff_ne.mpr e]at h;obtain⟨k2,m,q⟩:=bO (env:=env) h;exact⟨k2,dl _ m,q⟩
section
variable {K:W.Frag}
end
section
variable {K:W.Frag}{H:Hp}
end
section
variable {U:St}{H:Hp}{Q:VK}
end
abbrev notStar:Expr->Bool
 | .Starred ..=>false
 |_=>true
variable {es:List Expr}
def aa {e:Expr}{env:Env}(h:notStar e=true):bm (e::es) env=(false,eval e env)::bm es env:=by
 cases e<;>first|rfl|cases h
def iM {e:Expr}{t:TA}(ha:PE X e te)(hr:PA X es t)(h:notStar e=true:=by rfl):PA X (e::es) (vc te t):=tY ha hr (aa h)
section
variable {X:Cx}{Y:CD}{U:St}{H:Hp}{s:Shared}{h':Heap}
end
section
variable {g:TG}{tb:TS}{D:Ends}{U:St}{H:Hp}{ta:TA}
end
section
variable {X:Cx}
end
section
variable {K:W.Frag}{r:V->List V->Hp->VK->Prop}{to:TE}{t:TA}{U:St}{H:Hp}{Q:VK}
end
section
variable {H H1 H2:Hp}{p h c:Addr}{o:HO}{m:Int}
end
section
variable {H H':Hp}{xs ys:List V}{f:Nat->Int×Int}
end
section
variable {X:Cx}{a b c d:Expr}{ta tb tc td:TE}{pos:Pos}
end
section
variable {K:W.Frag}{U:St}{H:Hp}{Q:VK}{ta tb tc td tv:TE}{t:TA}{f m:Str}{D:Ends}{C:Addr}{sp:Sp}{dvs:List V}{E:XK}
end
section
variable {g:TG}{tb:TS}{D:Ends}{U:St}{H:Hp}{ta:TA}
end
section
variable {C:Addr}{H H':Hp}{S D h c:Addr}{rs:List Rec}{r:Rec}
end
section
variable {X:Cx}
end
end L2
namespace L2
end L2
namespace L2
open PySem PySem.Spec PyProof.Rows
section
variable {C:Addr}{H HF:Hp}{S D h c:Addr}{rs:List Rec}{r':Rec}
end
section
variable {X:Cx}
end
structure Bc (K:W.Frag) (C:Addr):Prop where
 ha:W.findIn K (.ref C) "__class__"=some (some (.builtin "object.__class__"))
 hn:W.specialIn K (.builtin "object.__class__") "__get__"=some (some (.builtin "getset_descriptor.__get__"))
 htk:W.takesIn K (.builtin "object.__class__")=some true
 hm:W.mroIn K C (.type "object")=some true
end L2
namespace L2
open PySem PySem.Spec PySem.W PyProof.Rows
abbrev aO (tp:Bool)(h:Heap)(j b:Addr)(k:Nat):Prop:=match tp with
 |true=>h.IsTupleIter j b k
 |false=>h.IsListIter j b k
abbrev bq (tp:Bool)(h:Heap)(b:Addr)(xs:Array Value):Prop:=match tp with
 |true=>h.IsTuple b xs
 |false=>h.IsList b xs
variable {tp:Bool}{h:Heap}{b:Addr}{k:Nat}
def aO.to {h':Heap}{j:Addr}(g:aO tp h j b k)(e:∀ o,h.get? j=some o->h'.get? j=some o):aO tp h' j b k:=by
 cases tp
 .obtain⟨o,e1,r⟩:=(show h.IsListIter j b k from g);exact⟨o,e o e1,r⟩
 .obtain⟨o,e1,r⟩:=(show h.IsTupleIter j b k from g);exact⟨o,e o e1,r⟩
variable {xs:Array Value}
def bq.to {h':Heap}(g:bq tp h b xs)(e:∀ o,h.get? b=some o->h'.get? b=some o):bq tp h' b xs:=by
 cases tp
 .obtain⟨o,e1,r⟩:=(show h.IsList b xs from g);exact⟨o,e o e1,r⟩
 .obtain⟨o,e1,r⟩:=(show h.IsTuple b xs from g);exact⟨o,e o e1,r⟩
def aO.lt {j:Addr}(g:aO tp h j b k):j<h.objs.size:=by
 cases tp
 .obtain⟨o,e1,r⟩:=(show h.IsListIter j b k from g);exact ss e1
 .obtain⟨o,e1,r⟩:=(show h.IsTupleIter j b k from g);exact ss e1
def bq.lt (g:bq tp h b xs):b<h.objs.size:=by
 cases tp
 .obtain⟨o,e1,r⟩:=(show h.IsList b xs from g);exact ss e1
 .obtain⟨o,e1,r⟩:=(show h.IsTuple b xs from g);exact ss e1
variable {Q:Option Value->Shared->Prop}{T:Int}{t:Tok}{fb:Bool}{oT:Obj}
section
variable {prog:Program}{w:World}{A:Around}{E:CC}{s:Shared}
def vM {j:Addr}{x:Value}{Q:CC}(g:s.heap.IsTupleIter j b k)(t:s.heap.IsTuple b xs)(hx:xs[k]? =some x)
  (q:∀ h',h'.IsTupleIter j b (k+1)->Heap.SameBut j s.heap h'->Q x { s with heap:=h' }):wpAny (model prog w) A (Builtin.SmallTypes.nextOf (.ref j)) Q E s:=by
 obtain⟨o1,e1,c1,d1⟩:=id g;obtain⟨o2,e2,_,n2,d2⟩:=t;unfold Builtin.SmallTypes.nextOf;refine ad (wpAny_callSpecial?_slot (name:=Str.ofString "__next__") g.typeIs F.slot_tuple_iterator_next (wpAny_call_entry F.slot_tuple_iterator_next g.typeIs F.entry_tuple_iterator_next ?_ (F.args_tuple_iterator_next_1 _)));show wpAny _ _ (field (.ref j) 0 >>= _) _ _ s;refine ad (ap e1 d1 (x:=.ref b) rfl ?_);show wpAny _ _ (if(Value.ref b ==Value.none)=true then _ else _) _ _ s;rw[if_neg (show ¬ ((Value.ref b ==Value.none)=true) from Bool.false_ne_true)];show wpAny _ _ (field (.ref j) 1 >>= _) _ _ s;refine ad (ap e1 d1 (x:=.int k 0) rfl ?_);show wpAny _ _ (seqItems? (.ref b) >>= _) _ _ s;refine ad (wpAny_seqItems e2 d2 ?_);simp only[pc,hx];refine ad (wpAny_setField e1 d1 (by simp) (am ⟨x,rfl,am (q _ ?_ (Heap.SameBut.update ..))⟩));refine⟨_,Heap.get?_update_self _ e1 (Obj.isFreed_of_fields (Obj.data_mapFields d1 _)),(Obj.cls_mapFields ..).trans c1,?_⟩;rw[Obj.data_mapFields d1];simp[rawInt]
def tX {j:Addr}{Q:CC}(hh:A.handled=none)(g:s.heap.IsTupleIter j b k)(t:s.heap.IsTuple b xs)(hx:xs[k]? =none)
  (q:∀ h' e,Heap.ExtBut j s.heap h'->(∃ o,h'.get? e=some o/\o.cls=.type "StopIteration")->E (.ref e) { s with heap:=h' }):wpAny (model prog w) A (Builtin.SmallTypes.nextOf (.ref j)) Q E s:=by
 obtain⟨o1,e1,c1,d1⟩:=id g;obtain⟨o2,e2,_,n2,d2⟩:=t;unfold Builtin.SmallTypes.nextOf;refine ad (wpAny_callSpecial?_slot (name:=Str.ofString "__next__") g.typeIs F.slot_tuple_iterator_next (wpAny_call_entry F.slot_tuple_iterator_next g.typeIs F.entry_tuple_iterator_next ?_ (F.args_tuple_iterator_next_1 _)));show wpAny _ _ (field (.ref j) 0 >>= _) _ _ s;refine ad (ap e1 d1 (x:=.ref b) rfl ?_);show wpAny _ _ (if(Value.ref b ==Value.none)=true then _ else _) _ _ s;rw[if_neg (show ¬ ((Value.ref b ==Value.none)=true) from Bool.false_ne_true)];show wpAny _ _ (field (.ref j) 1 >>= _) _ _ s;refine ad (ap e1 d1 (x:=.int k 0) rfl ?_);show wpAny _ _ (seqItems? (.ref b) >>= _) _ _ s;refine ad (wpAny_seqItems e2 d2 ?_);simp only[pc,hx];refine ad (wpAny_rule (ad (wpAny_setField e1 d1 (by simp) ?_)));show wpAny _ _ (newExc (.type "StopIteration") [] >>= _) _ _ _;refine ad ?_;simp only[newExc,newTuple];refine ad (wpAny_newObj_type ?_ (by size_fits));refine ad (m:=firstArgMember _ _) (wpAny_of_eq (a:=Value.none) (by first|rfl|(simp only[firstArgMember];rfl)) ?_);refine wpAny_newObj_type ?_ (by size_fits);simp only[raiseNew];refine ad (wpAny_handled ?_);first|rw[show A.in1.handled=none from hh]|rw[hh]
 refine ad (am (wpAny_throw ?_));exact q _ _ (((Heap.SameBut.update ..).extBut.push _).push _) ⟨_,sw _ rfl,rfl⟩
def cM {j:Addr}{x:Value}{Q:CC}(g:aO tp s.heap j b k)(t:bq tp s.heap b xs)(hx:xs[k]? =some x)
  (q:∀ h',aO tp h' j b (k+1)->Heap.SameBut j s.heap h'->Q x { s with heap:=h' }):wpAny (model prog w) A (Builtin.SmallTypes.nextOf (.ref j)) Q E s:=by
 cases tp
 .exact wpAny_nextOf_list_item g t hx q
 .exact vM g t hx q
def hW {j:Addr}{Q:CC}(hh:A.handled=none)(g:aO tp s.heap j b k)(t:bq tp s.heap b xs)(hx:xs[k]? =none)
  (q:∀ h' e,Heap.ExtBut j s.heap h'->(∃ o,h'.get? e=some o/\o.cls=.type "StopIteration")->E (.ref e) { s with heap:=h' }):wpAny (model prog w) A (Builtin.SmallTypes.nextOf (.ref j)) Q E s:=by
 cases tp
 .exact wpAny_nextOf_list_end hh g t hx q
 .exact tX hh g t hx q
@[reducible]def bt (h:Heap) (z TI TO:Addr) (f0 f1:Value):Prop:=h.get? z=some { cls:=.type "zip",dict:=none,data:=.fields #[f0,f1,.bool false,.ref TI,.ref TO],slots:=#[] }
variable {z TI TO i1 i2 l1 l2:Addr}{k1 k2:Nat}{tp1 tp2:Bool}{xs ys:Array Value}{x y a b f1:Value}
def sL (D:ZipApart z TI TO i1 i2 l1 l2)(hz:bt s.heap z TI TO .none f1)(hI:IsPair s.heap TI (.ref i1) (.ref i2))(hO:IsPair s.heap TO a b)
  (g1:aO tp1 s.heap i1 l1 k1) (g2:aO tp2 s.heap i2 l2 k2) (t1:bq tp1 s.heap l1 xs) (t2:bq tp2 s.heap l2 ys) (hx:xs[k1]? =some x) (hy:ys[k2]? =some y)
  (q:∀ h',bt h' z TI TO (rawInt s.heap.objs.size) (.bool false)->IsPair h' TO x y->aO tp1 h' i1 l1 (k1+1)->aO tp2 h' i2 l2 (k2+1)->IsPair h' s.heap.objs.size x y->h'.objs.size=s.heap.objs.size+1->
   (∀ c o,c≠z->c≠TO->c≠i1->c≠i2->s.heap.get? c=some o->h'.get? c=some o)->Q (some (.ref s.heap.objs.size)) { s with heap:=h' }):wpAny (model prog w) A (pyNext (.ref z)) Q E s:=by
 have hZ:s.TypeIs (.ref z) "zip":=⟨_,hz,rfl⟩;unfold pyNext;refine ad (wpAny_attempt (wpAny_callSpecial?_slot (name:=Str.ofString "__next__") hZ F.slot_zip_next (wpAny_call_entry F.slot_zip_next hZ F.entry_zip_next ?_ (F.args_zip_next_1 _))));show wpAny _ _ (field (.ref z) 2 >>= _) _ _ _;refine ad (ap (x:=.bool false) hz rfl rfl ?_);show wpAny _ _ (field (.ref z) 3 >>= _) _ _ _;refine ad (ap (x:=.ref TI) hz rfl rfl ?_);refine ad (wpAny_seqItems hI rfl ?_);show wpAny _ _ (Builtin.SmallTypes.ownedTupleIsFree (.ref z) >>= _) _ _ _;refine ad ?_;unfold Builtin.SmallTypes.ownedTupleIsFree;refine ad (ap (x:=.none) hz rfl rfl (am ?_));simp only[if_true];refine ad (wpAny_rule ?_);refine ad (ap (x:=.ref TO) hz rfl rfl ?_);refine ad (wpAny_setField_rec hz (by simp) λp1 z1 b1=>?_)
 replace z1:bt p1 z TI TO .ellipsis f1:=z1
 refine ad ?_;simp only[List.zipIdx_cons,List.zipIdx_nil,forIn_cons,forIn_nil];refine ad (ad (wpAny_onRaise ?_));show wpAny _ _ (Builtin.SmallTypes.nextOf (.ref i1) >>= _) _ _ _;refine ad (cM (g1.to λo e=>b1.extBut _ o D.i1z e) (t1.to λo e=>b1.extBut _ o D.l1z e) hx λp2 g1b b2=>am ?_);have hO2:IsPair p2 TO a b:=b2.extBut _ _ D.TOi1 (b1.extBut _ _ D.TOz hO);refine ad (wpAny_seqItems hO2 rfl ?_);refine ad (wpAny_updateSeq_pair hO2 λp3 hO3 b3=>?_)
 replace hO3:IsPair p3 TO x b:=hO3
 refine ad (wpAny_letGo (am ?_));refine ad (ad (wpAny_onRaise ?_));show wpAny _ _ (Builtin.SmallTypes.nextOf (.ref i2) >>= _) _ _ _;refine ad (cM (g2.to λo e=>b3.extBut _ o D.TOi2.symm (b2.extBut _ o D.i12.symm (b1.extBut _ o D.i2z e))) (t2.to λo e=>b3.extBut _ o D.l2TO (b2.extBut _ o D.l2i1 (b1.extBut _ o D.l2z e))) hy λp4 g2b b4=>am ?_);have hO4:IsPair p4 TO x b:=b4.extBut _ _ D.TOi2 hO3;refine ad (wpAny_seqItems hO4 rfl ?_);refine ad (wpAny_updateSeq_pair hO4 λp5 hO5 b5=>?_)
 replace hO5:IsPair p5 TO x y:=hO5
 refine ad (wpAny_letGo (am (am ?_)));refine ad (wpAny_seqItems hO5 rfl ?_);refine ad (wpAny_newTuple ?_);have hsz:p5.objs.size=s.heap.objs.size:=by rw[b5.1,b4.1,b3.1,b2.1,b1.1]
 have z5:bt p5 z TI TO .ellipsis f1:=b5.extBut _ _ D.TOz.symm (b4.extBut _ _ D.i2z.symm (b3.extBut _ _ D.TOz.symm (b2.extBut _ _ D.i1z.symm z1)));have k5:∀ c o,c≠z->c≠TO->c≠i1->c≠i2->s.heap.get? c=some o->p5.get? c=some o:=λc o n1 n2 n3 n4 e=>b5.extBut _ _ n2 (b4.extBut _ _ n4 (b3.extBut _ _ n2 (b2.extBut _ _ n3 (b1.extBut _ _ n1 e))))
 have g15:aO tp1 p5 i1 l1 (k1+1):=g1b.to λo e=>b5.extBut _ o D.TOi1.symm (b4.extBut _ o D.i12 (b3.extBut _ o D.TOi1.symm e))
 have g25:aO tp2 p5 i2 l2 (k2+1):=g2b.to λo e=>b5.extBut _ o D.TOi2.symm e
 have zlt:z<p5.objs.size:=ss z5;show wpAny _ _ (Builtin.SmallTypes.ownedTupleHandOut (.ref z) (.ref p5.objs.size) >>= _) _ _ _;refine ad ?_;unfold Builtin.SmallTypes.ownedTupleHandOut;have z6:bt (p5.push { cls:=.type "tuple",data:=.seq #[x,y] }) z TI TO .ellipsis f1:=sn _ z5;refine ad (wpAny_setField_rec z6 (by simp) λp7 z7 b7=>?_)
 replace z7:bt p7 z TI TO (rawInt p5.objs.size) f1:=z7
 refine wpAny_setField_rec z7 (by simp) λp8 z8 b8=>?_
 replace z8:bt p8 z TI TO (rawInt p5.objs.size) (.bool false):=z8
 have up:∀ c o,c≠z->p5.get? c=some o->p8.get? c=some o:=λc o n1 e=>b8.extBut _ _ n1 (b7.extBut _ _ n1 (sn _ e))
 have hT:IsPair p8 p5.objs.size x y:=b8.extBut _ _ (Nat.ne_of_gt zlt) (b7.extBut _ _ (Nat.ne_of_gt zlt) (sw _ rfl));have h8:p8.objs.size=p5.objs.size+1:=by rw[b8.1,b7.1,Heap.size_push]
 rw[hsz]at z8 hT h8;refine am ⟨_,rfl,?_⟩;rw[hsz];exact am (q p8 z8 (up _ _ D.TOz hO5) (g15.to λo e=>up _ o D.i1z e) (g25.to λo e=>up _ o D.i2z e) hT h8 λc o n1 n2 n3 n4 e=>up c o n1 (k5 c o n1 n2 n3 n4 e))
def xD {Q:Fin->Shared->Prop}(hh:A.handled=none)(D:ZipApart z TI TO i1 i2 l1 l2)(hz:bt s.heap z TI TO .none f1)(hI:IsPair s.heap TI (.ref i1) (.ref i2))(hO:IsPair s.heap TO a b)
  (g1:aO tp1 s.heap i1 l1 k1) (g2:aO tp2 s.heap i2 l2 k2) (t1:bq tp1 s.heap l1 xs) (t2:bq tp2 s.heap l2 ys) (hx:xs[k1]? =none\/ys[k2]? =none)
  (q:∀ h' e,(∀ c o,c≠z->c≠TO->c≠i1->c≠i2->s.heap.get? c=some o->h'.get? c=some o)->(∃ o,h'.get? e=some o/\o.cls=.type "StopIteration")->E (.ref e) { s with heap:=h' }):
  wpAny (model prog w) A (Builtin.«zip.__next__» ⟨[.ref z],[]⟩) Q E s:=by
 show wpAny _ _ (field (.ref z) 2 >>= _) _ _ _;refine ad (ap (x:=.bool false) hz rfl rfl ?_);show wpAny _ _ (field (.ref z) 3 >>= _) _ _ _;refine ad (ap (x:=.ref TI) hz rfl rfl ?_);refine ad (wpAny_seqItems hI rfl ?_);show wpAny _ _ (Builtin.SmallTypes.ownedTupleIsFree (.ref z) >>= _) _ _ _;refine ad ?_;unfold Builtin.SmallTypes.ownedTupleIsFree;refine ad (ap (x:=.none) hz rfl rfl (am ?_));simp only[if_true];refine ad (wpAny_rule ?_);refine ad (ap (x:=.ref TO) hz rfl rfl ?_);refine ad (wpAny_setField_rec hz (by simp) λp1 z1 b1=>?_)
 replace z1:bt p1 z TI TO .ellipsis f1:=z1
 refine ad ?_;simp only[List.zipIdx_cons,List.zipIdx_nil,forIn_cons,forIn_nil];refine ad (ad (wpAny_onRaise ?_));show wpAny _ _ (Builtin.SmallTypes.nextOf (.ref i1) >>= _) _ _ _;cases e1:xs[k1]? with
 |none=>
  refine ad (hW hh (g1.to λo e=>b1.extBut _ o D.i1z e) (t1.to λo e=>b1.extBut _ o D.l1z e) e1 λp2 e b2 he=>?_);obtain⟨oe,ho,hc⟩:=he;have z2:bt p2 z TI TO .ellipsis f1:=b2 _ _ D.i1z.symm z1;have ne:e≠z:=λn=>by subst n;rw[z2]at ho;cases ho;simp at hc
  exact wpAny_setField_rec z2 (by simp) λp3 _ b3=>q p3 e (λc o n1 _ n3 _ v=>b3.extBut _ _ n1 (b2 _ _ n3 (b1.extBut _ _ n1 v))) ⟨oe,b3.extBut _ _ ne ho,hc⟩
 |some x=>
  have e2:ys[k2]? =none:=by rcases hx with h|h;(rw[e1]at h;cases h);exact h
  refine ad (cM (g1.to λo e=>b1.extBut _ o D.i1z e) (t1.to λo e=>b1.extBut _ o D.l1z e) e1 λp2 g1b b2=>am ?_);have hO2:IsPair p2 TO a b:=b2.extBut _ _ D.TOi1 (b1.extBut _ _ D.TOz hO);refine ad (wpAny_seqItems hO2 rfl ?_);refine ad (wpAny_updateSeq_pair hO2 λp3 hO3 b3=>?_);refine ad (wpAny_letGo (am ?_));refine ad (ad (wpAny_onRaise ?_));show wpAny _ _ (Builtin.SmallTypes.nextOf (.ref i2) >>= _) _ _ _;refine ad (hW hh (g2.to λo e=>b3.extBut _ o D.TOi2.symm (b2.extBut _ o D.i12.symm (b1.extBut _ o D.i2z e))) (t2.to λo e=>b3.extBut _ o D.l2TO (b2.extBut _ o D.l2i1 (b1.extBut _ o D.l2z e))) e2 λp4 e b4 he=>?_);obtain⟨oe,ho,hc⟩:=he;have z4:bt p4 z TI TO .ellipsis f1:=b4 _ _ D.i2z.symm (b3.extBut _ _ D.TOz.symm (b2.extBut _ _ D.i1z.symm z1));have ne:e≠z:=λn=>by subst n;rw[z4]at ho;cases ho;simp at hc
  exact wpAny_setField_rec z4 (by simp) λp5 _ b5=>q p5 e (λc o n1 n2 n3 n4 v=>b5.extBut _ _ n1 (b4 _ _ n4 (b3.extBut _ _ n2 (b2.extBut _ _ n3 (b1.extBut _ _ n1 v))))) ⟨oe,b5.extBut _ _ ne ho,hc⟩
def km {c:Addr}{Q:Option Obj->Shared->Prop}(h:Q (s.heap.get? c) s):wpAny (model prog w) A (loadIfAlive c) Q E s:=λ_ _ _=>h
def jo {Q:Bool->Shared->Prop}(hz:bt s.heap z TI TO (.int T t) (.bool fb))(hT:s.heap.get? T.toNat=some oT)(q:∀ h',bt h' z TI TO (.int T t) (.bool true)->Heap.SameBut z s.heap h'->Q false { s with heap:=h' }):
  wpAny (model prog w) A (Builtin.SmallTypes.ownedTupleIsFree (.ref z)) Q E s:=by
 unfold Builtin.SmallTypes.ownedTupleIsFree;refine ad (ap (x:=.int T t) hz rfl rfl ?_);refine ad (km ?_);rw[hT];refine ad (ap (x:=.bool fb) hz rfl rfl ?_);cases fb
 .refine ad (wpAny_setField_rec hz (by simp) λp1 z1 b1=>am ?_);exact q p1 z1 b1
 .exact ad (am (am (q s.heap hz (Heap.SameBut.refl ..))))
def tm (D:ZipApart z TI TO i1 i2 l1 l2)(hz:bt s.heap z TI TO (.int T t) (.bool fb))(hT:s.heap.get? T.toNat=some oT)(hI:IsPair s.heap TI (.ref i1) (.ref i2))
  (g1:aO tp1 s.heap i1 l1 k1) (g2:aO tp2 s.heap i2 l2 k2) (t1:bq tp1 s.heap l1 xs) (t2:bq tp2 s.heap l2 ys) (hx:xs[k1]? =some x) (hy:ys[k2]? =some y)
  (q:∀ h',bt h' z TI TO (.int T t) (.bool true)->aO tp1 h' i1 l1 (k1+1)->aO tp2 h' i2 l2 (k2+1)->IsPair h' s.heap.objs.size x y->h'.objs.size=s.heap.objs.size+1->
   (∀ c o,c≠z->c≠i1->c≠i2->s.heap.get? c=some o->h'.get? c=some o)->Q (some (.ref s.heap.objs.size)) { s with heap:=h' }):wpAny (model prog w) A (pyNext (.ref z)) Q E s:=by
 have hZ:s.TypeIs (.ref z) "zip":=⟨_,hz,rfl⟩;unfold pyNext;refine ad (wpAny_attempt (wpAny_callSpecial?_slot (name:=Str.ofString "__next__") hZ F.slot_zip_next (wpAny_call_entry F.slot_zip_next hZ F.entry_zip_next ?_ (F.args_zip_next_1 _))));show wpAny _ _ (field (.ref z) 2 >>= _) _ _ _;refine ad (ap (x:=.bool false) hz rfl rfl ?_);show wpAny _ _ (field (.ref z) 3 >>= _) _ _ _;refine ad (ap (x:=.ref TI) hz rfl rfl ?_);refine ad (wpAny_seqItems hI rfl ?_);show wpAny _ _ (Builtin.SmallTypes.ownedTupleIsFree (.ref z) >>= _) _ _ _;refine ad (jo hz hT λp1 z1 b1=>?_);simp only[Bool.false_eq_true,if_false];simp only[List.forIn_toArray,forIn_cons,forIn_nil];refine ad (ad (ad (bd ?_)));show wpAny _ _ (Builtin.SmallTypes.nextOf (.ref i1) >>= _) _ _ _;refine ad (cM (g1.to λo e=>b1.extBut _ o D.i1z e) (t1.to λo e=>b1.extBut _ o D.l1z e) hx λp2 g1b b2=>am (am ?_));dsimp only;refine ad (ad (bd ?_));show wpAny _ _ (Builtin.SmallTypes.nextOf (.ref i2) >>= _) _ _ _;refine ad (cM (g2.to λo e=>b2.extBut _ o D.i12.symm (b1.extBut _ o D.i2z e)) (t2.to λo e=>b2.extBut _ o D.l2i1 (b1.extBut _ o D.l2z e)) hy λp3 g2b b3=>am (am (am ?_)));dsimp only;refine ad (wpAny_newTuple ?_ (hsz:=fits (nl rfl)));have hsz:p3.objs.size=s.heap.objs.size:=by rw[b3.1,b2.1,b1.1]
 refine am ⟨_,rfl,?_⟩;have z3:bt p3 z TI TO (.int T t) (.bool true):=b3.extBut _ _ D.i2z.symm (b2.extBut _ _ D.i1z.symm z1);rw[hsz];refine am (q _ (sn _ z3) (g1b.to λo e=>sn _ (b3.extBut _ o D.i12 e)) (g2b.to λo e=>sn _ e) (by rw[<-hsz];exact sw _ rfl) (by rw[Heap.size_push,hsz]) λc o n1 n2 n3 e=>?_);exact sn _ (b3.extBut _ _ n3 (b2.extBut _ _ n2 (b1.extBut _ _ n1 e)))
def qP {Q:Fin->Shared->Prop}(hh:A.handled=none)(D:ZipApart z TI TO i1 i2 l1 l2)(hz:bt s.heap z TI TO (.int T t) (.bool fb))(hT:s.heap.get? T.toNat=some oT)(hI:IsPair s.heap TI (.ref i1) (.ref i2))
  (g1:aO tp1 s.heap i1 l1 k1) (g2:aO tp2 s.heap i2 l2 k2) (t1:bq tp1 s.heap l1 xs) (t2:bq tp2 s.heap l2 ys) (hx:xs[k1]? =none\/ys[k2]? =none)
  (q:∀ h' e,(∀ c o,c≠z->c≠i1->c≠i2->s.heap.get? c=some o->h'.get? c=some o)->(∃ o,h'.get? e=some o/\o.cls=.type "StopIteration")->E (.ref e) { s with heap:=h' }):
  wpAny (model prog w) A (Builtin.«zip.__next__» ⟨[.ref z],[]⟩) Q E s:=by
 show wpAny _ _ (field (.ref z) 2 >>= _) _ _ _;refine ad (ap (x:=.bool false) hz rfl rfl ?_);show wpAny _ _ (field (.ref z) 3 >>= _) _ _ _;refine ad (ap (x:=.ref TI) hz rfl rfl ?_);refine ad (wpAny_seqItems hI rfl ?_);show wpAny _ _ (Builtin.SmallTypes.ownedTupleIsFree (.ref z) >>= _) _ _ _;refine ad (jo hz hT λp1 z1 b1=>?_);simp only[Bool.false_eq_true,if_false];simp only[List.forIn_toArray,forIn_cons,forIn_nil];refine ad (ad (ad (bd ?_)));show wpAny _ _ (Builtin.SmallTypes.nextOf (.ref i1) >>= _) _ _ _;cases e1:xs[k1]? with
 |none=>exact ad (hW hh (g1.to λo e=>b1.extBut _ o D.i1z e) (t1.to λo e=>b1.extBut _ o D.l1z e) e1 λp2 e b2 he=>q p2 e (λc o n1 n2 n3 v=>b2 _ _ n2 (b1.extBut _ _ n1 v)) he)
 |some x=>
  have e2:ys[k2]? =none:=by rcases hx with h|h;(rw[e1]at h;cases h);exact h
  refine ad (cM (g1.to λo e=>b1.extBut _ o D.i1z e) (t1.to λo e=>b1.extBut _ o D.l1z e) e1 λp2 g1b b2=>am (am ?_));dsimp only;refine ad (ad (bd ?_));show wpAny _ _ (Builtin.SmallTypes.nextOf (.ref i2) >>= _) _ _ _;exact ad (hW hh (g2.to λo e=>b2.extBut _ o D.i12.symm (b1.extBut _ o D.i2z e)) (t2.to λo e=>b2.extBut _ o D.l2i1 (b1.extBut _ o D.l2z e)) e2 λp4 e b4 he=>q p4 e (λc o n1 n2 n3 v=>b4 _ _ n3 (b2.extBut _ _ n2 (b1.extBut _ _ n1 v))) he)
def x6 (hh:A.handled=none)(D:ZipApart z TI TO i1 i2 l1 l2)(hz:bt s.heap z TI TO .none f1)(hI:IsPair s.heap TI (.ref i1) (.ref i2))(hO:IsPair s.heap TO a b)
  (g1:aO tp1 s.heap i1 l1 k1) (g2:aO tp2 s.heap i2 l2 k2) (t1:bq tp1 s.heap l1 xs) (t2:bq tp2 s.heap l2 ys) (hx:xs[k1]? =none\/ys[k2]? =none)
  (q:∀ h',(∀ c o,c≠z->c≠TO->c≠i1->c≠i2->s.heap.get? c=some o->h'.get? c=some o)->Q none { s with heap:=h' }):wpAny (model prog w) A (pyNext (.ref z)) Q E s:=by
 have hT:s.TypeIs (.ref z) "zip":=⟨_,hz,rfl⟩;unfold pyNext;refine ad (wpAny_attempt (wpAny_callSpecial?_slot (name:=Str.ofString "__next__") hT F.slot_zip_next (wpAny_call_entry F.slot_zip_next hT F.entry_zip_next (xD hh D hz hI hO g1 g2 t1 t2 hx λh' e k ⟨o,ho,hc⟩=>?_) (F.args_zip_next_1 _))));exact ad (wpAny_isInstance (T:="StopIteration") (b:=true) ⟨o,ho,hc⟩ isSubtype_stop (am (q _ k)))
def rN (hh:A.handled=none)(D:ZipApart z TI TO i1 i2 l1 l2)(hz:bt s.heap z TI TO (.int T t) (.bool fb))(hT:s.heap.get? T.toNat=some oT)(hI:IsPair s.heap TI (.ref i1) (.ref i2))
  (g1:aO tp1 s.heap i1 l1 k1) (g2:aO tp2 s.heap i2 l2 k2) (t1:bq tp1 s.heap l1 xs) (t2:bq tp2 s.heap l2 ys) (hx:xs[k1]? =none\/ys[k2]? =none)
  (q:∀ h',(∀ c o,c≠z->c≠i1->c≠i2->s.heap.get? c=some o->h'.get? c=some o)->Q none { s with heap:=h' }):wpAny (model prog w) A (pyNext (.ref z)) Q E s:=by
 have hT':s.TypeIs (.ref z) "zip":=⟨_,hz,rfl⟩;unfold pyNext;refine ad (wpAny_attempt (wpAny_callSpecial?_slot (name:=Str.ofString "__next__") hT' F.slot_zip_next (wpAny_call_entry F.slot_zip_next hT' F.entry_zip_next (qP hh D hz hT hI g1 g2 t1 t2 hx λh' e k ⟨o,ho,hc⟩=>?_) (F.args_zip_next_1 _))));exact ad (wpAny_isInstance (T:="StopIteration") (b:=true) ⟨o,ho,hc⟩ isSubtype_stop (am (q _ k)))
end
section
variable {prog:Program}{w:World}{A:Around}{E:CC}{s:Shared}{a:Addr}{vs:Array Value}
end
structure Zs (h:Heap) (tp1 tp2:Bool) (z TI TO i1 i2 l1 l2:Addr) (i:Nat) (xs ys:Array Value):Prop where
 zo:(∃ f1,bt h z TI TO .none f1)\/∃ (T:Int) (fb:Bool) (o:Obj),bt h z TI TO (rawInt T) (.bool fb)/\h.get? T.toNat=some o/\T.toNat≠z/\T.toNat≠TO/\T.toNat≠i1/\T.toNat≠i2
 hI:IsPair h TI (.ref i1) (.ref i2)
 hO:∃ a b,IsPair h TO a b
 g1:aO tp1 h i1 l1 i
 g2:aO tp2 h i2 l2 i
 t1:bq tp1 h l1 xs
 t2:bq tp2 h l2 ys
variable {d:Addr}
section
variable {prog:Program}{w:World}{A:Around}{E:CC}{s:Shared}{tp1 tp2:Bool}{z TI TO i1 i2 l1 l2:Addr}{i:Nat}{xs ys:Array Value}{x y:Value}
def Zs.next (D:ZipApart z TI TO i1 i2 l1 l2)(Z:Zs s.heap tp1 tp2 z TI TO i1 i2 l1 l2 i xs ys)(hx:xs[i]? =some x)(hy:ys[i]? =some y)
  (q:∀ h',Zs h' tp1 tp2 z TI TO i1 i2 l1 l2 (i+1) xs ys->IsPair h' s.heap.objs.size x y->h'.objs.size=s.heap.objs.size+1->(∀ c o,c≠z->c≠TO->c≠i1->c≠i2->s.heap.get? c=some o->h'.get? c=some o)->Q (some (.ref s.heap.objs.size)) { s with heap:=h' }):
  wpAny (model prog w) A (pyNext (.ref z)) Q E s:=by
 obtain⟨zo,hI,⟨a,b,hO⟩,g1,g2,t1,t2⟩:=Z;have n0:∀ {c o},s.heap.get? c=some o->s.heap.objs.size≠c:=λe=>Nat.ne_of_gt (ss e)
 rcases zo with⟨f1,hz⟩|⟨T,fb,o,hz,hT,n1,n2,n3,n4⟩
 .refine sL D hz hI hO g1 g2 t1 t2 hx hy λh' z1 o1 j1 j2 p1 sz k=>?_
  refine q h' ⟨.inr ⟨s.heap.objs.size,false,_,z1,p1,n0 hz,n0 hO,Nat.ne_of_gt g1.lt,Nat.ne_of_gt g2.lt⟩,k _ _ D.TIz D.TITO D.TIi1 D.TIi2 hI,⟨_,_,o1⟩,j1,j2,t1.to λo e=>k _ o D.l1z D.l1TO D.l1i1 D.l1i2 e,t2.to λo e=>k _ o D.l2z D.l2TO D.l2i1 D.l2i2 e⟩ p1 sz k
 .refine tm D hz hT hI g1 g2 t1 t2 hx hy λh' z1 j1 j2 p1 sz k=>?_
  exact q h' ⟨.inr ⟨T,true,o,z1,k _ _ n1 n3 n4 hT,n1,n2,n3,n4⟩,k _ _ D.TIz D.TIi1 D.TIi2 hI,⟨a,b,k _ _ D.TOz D.TOi1 D.TOi2 hO⟩,j1,j2,t1.to λo e=>k _ o D.l1z D.l1i1 D.l1i2 e,t2.to λo e=>k _ o D.l2z D.l2i1 D.l2i2 e⟩ p1 sz λc o m1 _ m3 m4 e=>k c o m1 m3 m4 e
def Zs.stop (hh:A.handled=none)(D:ZipApart z TI TO i1 i2 l1 l2)(Z:Zs s.heap tp1 tp2 z TI TO i1 i2 l1 l2 i xs ys)(hx:xs[i]? =none\/ys[i]? =none)
  (q:∀ h',(∀ c o,c≠z->c≠TO->c≠i1->c≠i2->s.heap.get? c=some o->h'.get? c=some o)->Q none { s with heap:=h' }):wpAny (model prog w) A (pyNext (.ref z)) Q E s:=by
 obtain⟨zo,hI,⟨a,b,hO⟩,g1,g2,t1,t2⟩:=Z;rcases zo with⟨f1,hz⟩|⟨T,fb,o,hz,hT,_⟩
 .exact x6 hh D hz hI hO g1 g2 t1 t2 hx q
 .exact rN hh D hz hT hI g1 g2 t1 t2 hx λh' k=>q h' λc o m1 _ m3 m4 e=>k c o m1 m3 m4 e
def Zs.keep {h':Heap}(Z:Zs h tp1 tp2 z TI TO i1 i2 l1 l2 i xs ys)(k:∀ c o,h.get? c=some o->c≠d->h'.get? c=some o) (n:d≠z/\d≠TI/\d≠TO/\d≠i1/\d≠i2/\d≠l1/\d≠l2) (hd:∃ o,h'.get? d=some o):Zs h' tp1 tp2 z TI TO i1 i2 l1 l2 i xs ys:=by
 obtain⟨zo,hI,⟨a,b,hO⟩,g1,g2,t1,t2⟩:=Z;obtain⟨m1,m2,m3,m4,m5,m6,m7⟩:=n;refine⟨?_,k _ _ hI m2.symm,⟨a,b,k _ _ hO m3.symm⟩,g1.to λo e=>k _ o e m4.symm,g2.to λo e=>k _ o e m5.symm,t1.to λo e=>k _ o e m6.symm,t2.to λo e=>k _ o e m7.symm⟩;rcases zo with⟨f1,hz⟩|⟨T,fb,o,hz,hT,r⟩
 .exact .inl ⟨f1,k _ _ hz m1.symm⟩
 .by_cases e:T.toNat=d
  .obtain⟨o',ho⟩:=hd;exact .inr ⟨T,fb,o',k _ _ hz m1.symm,by rw[e];exact ho,r⟩
  .exact .inr ⟨T,fb,o,k _ _ hz m1.symm,k _ _ hT e,r⟩
end
section
variable {prog:Program}{w:World}{A:Around}{tp1 tp2:Bool}{z TI TO i1 i2 l1 l2 d:Addr}{xs ys:Array Value}{Ky:Type} [DecidableEq Ky] {knd:KeyKind prog w Ky}
end
section
variable {X:Cx}{Y:CD}{U:St}{H:Hp}{s:Shared}{a:Addr}{kvs:List (Key×V)}{A:Around}{E:CC}
end
variable {A:Around}
section
variable {X:Cx}{Y:CD}{U:St}{H:Hp}{s:Shared}
def j4 {x:V}{u t:Value}(I:Inv X Y U H s)(rx:RelV x u)(ty:dP X.K H x t):∃ P:Heap->Prop,KitX X.K u t P/\P s.heap/\u≠.builtin "__main__.__loader__#opaque":=by
 cases ty with
 |non=>cases(show u=Value.none from rx);exact⟨_,kitx_none,True.intro,λz=>nomatch z⟩
 |bl y=>cases(show u=Value.bool y from rx);exact⟨_,kitx_bool,True.intro,λz=>nomatch z⟩
 |int i=>obtain⟨t,q⟩:=(show ∃ t,u=Value.int i t from rx);cases q;exact⟨_,kitx_int,True.intro,λz=>nomatch z⟩
 |str y=>obtain⟨t,q⟩:=(show ∃ t,u=Value.str y t from rx);cases q;exact⟨_,kitx_str,True.intro,λz=>nomatch z⟩
 |flt y=>obtain⟨t,q⟩:=(show ∃ t,u=Value.float y t from rx);cases q;exact⟨_,kitx_float,True.intro,λz=>nomatch z⟩
 | @lst a xs ea=>
  cases(show u=Value.ref a from rx);obtain⟨_,_,n,_,h1⟩:=(show aj X.prog X.w H s.heap a (.lst xs) from I.hok a _ ea);exact⟨_,kitx_list,⟨_,h1,rfl⟩,λz=>nomatch z⟩
 | @aP a ob xs ea=>
  cases(show u=Value.ref a from rx);obtain⟨_,_,_,n,_,h1⟩:=(show aj X.prog X.w H s.heap a (.aP ob (.lst xs)) from I.hok a _ ea);exact⟨_,kitx_list,⟨_,h1,rfl⟩,λz=>nomatch z⟩
 | @tup a xs ea=>
  cases(show u=Value.ref a from rx);obtain⟨_,_,_,p⟩:=(show aj X.prog X.w H s.heap a (.tup xs) from I.hok a _ ea);obtain⟨o,h1,h2,_⟩:=p;exact⟨_,kitx_tuple,⟨o,h1,h2⟩,λz=>nomatch z⟩
 | @dK a kvs ea=>
  cases(show u=Value.ref a from rx);obtain⟨_,_,vs,_,p⟩:=(show aj X.prog X.w H s.heap a (.dK kvs) from ea.ok I.hok);obtain⟨o,es,ep,h1,h2,_⟩:=p;exact⟨_,kitx_dict,⟨o,h1,h2.1⟩,λz=>nomatch z⟩
 | @dT a kvs ea=>
  cases(show u=Value.ref a from rx);obtain⟨_,_,xs,_,o,es,ep,h1,h2,_⟩:=(show aj X.prog X.w H s.heap a (.dT kvs) from I.hok a _ ea);exact⟨_,kitx_dict,⟨o,h1,h2.1⟩,λz=>nomatch z⟩
 | @ins a C dx fs ea cl ha hn htk hm=>
  cases(show u=Value.ref a from rx);obtain⟨mA,O,_⟩:=cS I.hok ea;obtain⟨od,J,_⟩:=O.look;exact⟨_,kitx_own (cl.get _) cl.hd ha hn htk hm,J,λz=>nomatch z⟩
def i7 {E:CC}{Q:CC}{u t:Value}{p:Addr}{cs:List Addr}{b:Bool}{P:Heap->Prop}(I:Inv X Y U H s)(Z:KitX X.K u t P)(hp:P s.heap)(hx:u≠.builtin "__main__.__loader__#opaque")
  (ep:H p=some (.tup (cs.map V.ref))) (e:kitAny X.K t (cs.map Value.ref)=some b) (h:∀ tk,Q (.bool b) { s with toks:=tk }):wpAny (model X.prog X.w) A (call (.builtin "isinstance") [u,.ref p]) Q E s:=by
 obtain⟨its,r,pl,_⟩:=I.tuple (cV.of ep);have er:∀ {cs:List Addr}{us:List Value},Vals (cs.map V.ref) us->us=cs.map Value.ref:=by
  intro cs
  induction cs with
  |nil=>intro us h;cases h;rfl
  |cons c cs ih=>
   intro us h;cases h with
   |cons r1 r2=>
    rw[ih r2,show _=Value.ref c from r1]
    rfl
 obtain rfl:=er r;obtain⟨⟨c,d,da,sl⟩,h1,h2,n,h3⟩:=(show s.heap.IsTuple p (cs.map Value.ref).toArray from pl);subst h2;obtain rfl:=h3;exact kia_tup Z I.aT hp h1 e hx h
end
def mi:∀ {ns:List Int}{us:List Value},Vals (ns.map V.int) us->∃ xs:List (Int×Tok),us=xs.map (λp=>Value.int p.1 p.2)/\xs.map (·.1)=ns
 | [],_,h=>by cases h;exact⟨[],rfl,rfl⟩
 |n::ns,_,h=>by
  cases h with
  |cons r1 r2=>
   obtain⟨t,rfl⟩:=r1;obtain⟨xs,rfl,e⟩:=mi r2;exact⟨(n,t)::xs,rfl,by simp[e]⟩
def zM (d:Addr)(hd:(d ==sysModules)=false)(dd:Option Addr)(ep:Nat)(sl:Array (Option Value)):Meets (Builtin.«dict.__eq__» ⟨[.ref d,.ref d],[]⟩) (λ_ R s=>s.heap.get? d=some ⟨.type "dict",dd,.dict #[] ep,sl⟩/\R (.ok (.ret (.bool true))) s):=by
 intro prog w A R s hs;obtain⟨h,g,dp,tt,os⟩:=s;obtain⟨ho,q⟩:=hs;have hT:(⟨h,g,dp,tt,os⟩:Shared).TypeIs (.ref d) "dict":=⟨_,ho,rfl⟩;unfold Builtin.«dict.__eq__»
 k_delta "equality"
 unfold Builtin.Dict.dictSlotArgs;refine ad (ad (wpAny_notOrdered_dict hT ?_));show wpAny _ _ (pure (Value.ref d,[Value.ref d]) >>= _) _ _ _;refine ad (am (am ?_));have hi:=PySem.F.kt_sub_dict;show wpAny _ _ (isInstance (.ref d) (.type "dict") >>= _) _ _ _;unfold Builtin.Dict.samePairs;simp only[Std.Legacy.Range.forIn_eq_forIn_range']
 repeat(any_goals first|assumption|wp_step)
variable {s:Shared}{dd:Option Addr}{sl:Array (Option Value)}
def yB (hd:(d ==sysModules)=false){ep:Nat}(ho:s.heap.get? d=some ⟨.type "dict",dd,.dict #[] ep,sl⟩) (hu:A.units<cLine):SeqAt.RcAt A s (.ref d) (.ref d) true:=λprog w E Q h=>
 richCompare_meets_room (op:=.Eq) ⟨_,ho,rfl⟩ ⟨_,ho,rfl⟩ PySem.F.slot_dict_eq PySem.F.entry_dict_eq (PySem.F.args_dict_eq_2 _ _) (zM d hd dd ep sl) ⟨ho,show Value.bool true≠Value.notImplemented/\Q (.bool true) s from⟨(λx=>nomatch x),h⟩⟩ hu
abbrev sh (K:W.Frag)(H:Hp)(a:Addr):Prop:=(∃ xs,aA K H a xs)\/(∃ xs,cV K H a xs)\/H a=some (.dK [])
variable {X:Cx}{Y:CD}
def tE {U:St}{H:Hp}{a:Addr}(I:Inv X Y U H s)(h:sh X.K H a)(hu:A.units+2<cLine):SeqAt.RcAt A s (.ref a) (.ref a) true:=by
 rcases h with⟨xs,h⟩|⟨xs,h⟩|h
 .obtain⟨ia,ra,pa,_⟩:=I.list h;have rc:=SeqAt.RcAt.lists (A:=A) (e:=λ_=>true) pa.isList pa.isList rfl nofun λj h1 h2=>SeqAt.EqAt.same _
  have e:(List.range ia.toArray.size).all (λ_=>true)=true:=by simp
  rwa [e]at rc
 .obtain⟨ia,ra,pa,_⟩:=I.tuple h;have rc:=SeqAt.RcAt.tuples (A:=A) (e:=λ_=>true) (show s.heap.IsTuple a ia.toArray from pa) (show s.heap.IsTuple a ia.toArray from pa) nofun λj h1 h2=>SeqAt.EqAt.same _
  have e:((List.range (min ia.toArray.size ia.toArray.size)).all (λ_=>true)&&ia.toArray.size ==ia.toArray.size)=true:=by simp
  rwa [e]at rc
 .obtain⟨z,hd,vs,rel,dd⟩:=eO I.hok (.inl h);cases rel;obtain⟨⟨c,d,da,sl⟩,es,ep,ho,hx,he,_,hp,_⟩:=dd;have e0:es=#[]:=by
   cases hp':es.toList with
   |nil=>exact Array.toList_eq_nil_iff.mp hp'
   |cons a b=>rw[hp']at hp;cases hp
  subst e0;obtain rfl:da=.dict #[] ep:=he;obtain⟨rfl,_⟩:=hx;exact yB hd ho nofun
section
variable {prog:Program}{w:World}{A:Around}{E:CC}{s:Shared}{T:String}{r d:Addr}{n:Nat}{P:Nat->Value->Prop}{OK:Heap->Prop}
end
abbrev lr (tp:Bool):String:=match tp with
 |true=>"tuple"
 |false=>"list"
abbrev rS (K:W.Frag)(C:Addr):Bool:=findIn K (.ref C) "__eq__" ==some (some (.builtin "object.__eq__"))&&subIn K (.ref C) (.type "str") ==some false&&subIn K (.ref C) (.type "object") ==some true
def kA {prog:Program}{w:World}{K:Frag}{C:Addr}{R:Result->Shared->Prop}(X:K.In s.heap)(hm:makesIn K C=true)(hi:findIn K (.ref C) "__init__"=some (some (.builtin "object.__init__")))
  (h:R (.ok (.ret (.ref (s.heap.objs.size+1)))) { s with heap:=(s.heap.push emptyDict).push (instObj C s.heap.objs.size) }):codeAny (model prog w) A (.call (.ref C) ⟨[],[]⟩) R s:=by
 obtain⟨hh,g,d,t,os⟩:=s;have Y:=makes_of (M:=model prog w) X hm;refine make_core Y (looks_findIn X hi) (λz=>Looks.of_pure (oi_bind z)) (.inr ⟨rfl,rfl⟩) ?_;have k:∀ b o,hh.get? b=some o->((hh.push emptyDict).push (instObj C hh.objs.size)).get? b=some o:=λb o e=>sn _ (sn _ e)
 have hx:((hh.push emptyDict).push (instObj C hh.objs.size)).get? (hh.objs.size+1)=some (instObj C hh.objs.size):=by heap_get
 have t1:Looks (model prog w) ((hh.push emptyDict).push (instObj C hh.objs.size)) (typeOf (.ref (hh.objs.size+1))) (.ref C):=Looks.andThen (Looks.ld hx) .now;have t2:Looks (model prog w) ((hh.push emptyDict).push (instObj C hh.objs.size)) (isInstance (.ref (hh.objs.size+1)) (.type "object")) true:=t1.andThen (Y.top.keeps k);refine codeAny_call_builtin oi_plain entry_oi (@check_slot (model prog w) _ _ _ "object.__init__" "object" "__init__" (.ref (hh.objs.size+1)) [] [] _ oi_kind oi_split t2 (oi_args _) ?_);rw[oi_run];exact am ⟨rfl,h⟩
structure BK (K:Frag) (C:Addr):Prop where
 makes:makesIn K C=true
 init:findIn K (.ref C) "__init__"=some (some (.builtin "object.__init__"))
 kp:keepIn K (.ref C)=true
abbrev Ba (C:Addr):TE:=λ_ H Q=>∀ x dx,H x=none->H dx=none->dx≠x->Q (.ref x) (upd (upd H dx (.own x)) x (.ins C dx []))
variable {pos:Pos}
def pB {C:Addr}{x:Str}{p:Pos}(M:BK X.K C)(hg:Gl X x)(hm:X.mg x=some (.ref C))(hdb:(x ==("__debug__":Str))=false):PE X (.Call (.Name x p) [] [] pos) (Ba C):=by
 intro Y s U H Q I h;refine bv (aN I hg hm ?_ hdb);refine W.callWith_K0 I.aT M.kp (wpAny_call (kA I.aT M.makes M.init ?_));have I2:=Inv.made (C:=C) I;exact⟨.ref (s.heap.objs.size+1),_,I2,rfl,h (s.heap.objs.size+1) s.heap.objs.size (I.hok.fresh (Nat.le_succ _)) (I.hok.fresh (ol _)) (nw (Nat.lt_succ_self _))⟩
@[reducible]def VV:List (V×V)->List (Value×Value)->Prop:=Paired λp q=>RelV p.1 q.1/\RelV p.2 q.2
abbrev PQ (X:Cx)(pos:Pos)(keys:List (Option Expr))(values:List Expr)(t:St->Hp->(List (V×V)->Hp->Prop)->Prop):Prop:=
 ∀ (Y:CD) (s:Shared) (U:St) (H:Hp) (Q:List (V×V)->Hp->Prop),Inv X Y U H s->t U H Q->
  wpAny (model X.prog X.w) X.A (evalPairs (pairTrees keys values X.env pos)) (λvs s'=>∃ ps H',Inv X Y U H' s'/\VV ps vs/\Q ps H') X.xe s
def wC:PQ X pos [] [] (λ_ H Q=>Q [] H):=λY s U H Q I h=>pairTrees_nil_walk ⟨[],H,I,.nil,h⟩
def uO {k v:Expr}{ks:List (Option Expr)}{vs:List Expr}{tk tv:TE}{t:St->Hp->(List (V×V)->Hp->Prop)->Prop}(hk:PE X k tk)(hv:PE X v tv)(hr:PQ X pos ks vs t):
  PQ X pos (some k::ks) (v::vs) (λU H Q=>tk U H λx H1=>tv U H1 λy H2=>t U H2 λps H3=>Q ((x,y)::ps) H3):=λY s U H Q I h=>
 pairTrees_cons_walk (ar (hk Y s U H _ I h) λu s1 ⟨x,H1,I1,rx,q1⟩=>ar (hv Y s1 U H1 _ I1 q1) λw2 s2 ⟨y,H2,I2,ry,q2⟩=>
  ar (hr Y s2 U H2 _ I2 q2) λws s3 ⟨ps,H3,I3,rel,q3⟩=>⟨(x,y)::ps,H3,I3,.cons ⟨rx,ry⟩ rel,q3⟩)
abbrev ky (K:W.Frag)(C:Addr):Bool:=findIn K (.ref C) "__ne__" ==some (some (.builtin "object.__ne__"))&&rS K C
section
variable {A:Around}{s:Shared}{l C dx:Addr}{od:Option Obj}{K:W.Frag}{prog:Program}{w:World}{E:CC}
def Ah (X:K.In s.heap)(I:InstAt s.heap l (instObj C dx) C od)(h1:findIn K (.ref C) "__eq__"=some (some (.builtin "object.__eq__"))) (h3:subIn K (.ref C) (.type "object")=some true) (h:Q (some (.bool true)) s):wpAny (model prog w) A (callSpecialIfBound? (.ref l) "__eq__" [.ref l]) Q E s:=by
 simp only[callSpecialIfBound?,bindSpecialIfBound?];refine bd (ad (ad (ad (I.type.here ((looks_findIn X h1).here ?_)))));simp only[PySem.F.cmp_object.eq.bind];have fin:wpAny (model prog w) A (call (.builtin "object.__eq__") ([.ref l]++[.ref l]) >>= λv=>pure (some v)) Q E s:=by
  refine ad (wpAny_call (codeAny_call_builtin PySem.F.cmp_object.eq.plain PySem.F.cmpEntry_eq ?_));simp only[checkBuiltinCall,PySem.F.cmpKind_eq,PySem.F.cmpSplit_eq];refine ad (ad (I.type.here ((looks_subIn X h3).here ?_)));rw[if_neg (by simp)];have ha:=PySem.F.cmpArgs_eq (.ref l) (.ref l);have h0:(match Manifest.signature? "object.__eq__" with|some sig=>Bind.checkArgs "object.__eq__" sig { pos:=[Value.ref l]++[Value.ref l] }|x=>pure ())=pure ():=ha;refine wpAny_of_eq h0 ?_;exact objEq_entry_same (am h)
 refine ad (wpAny_askSetting (wpAny_ite ?_))
 split
 .exact ad (am (am fin))
 .exact wpAny_tryCatch (ad (am (am fin)))
def zY (X:K.In s.heap)(I:InstAt s.heap l (instObj C dx) C od)(h1:findIn K (.ref C) "__eq__"=some (some (.builtin "object.__eq__"))) (h2:findIn K (.ref C) "__ne__"=some (some (.builtin "object.__ne__"))) (h3:subIn K (.ref C) (.type "object")=some true) (hu:A.units+2<cLine) (h:Q (some (.bool false)) s):wpAny (model prog w) A (callSpecialIfBound? (.ref l) "__ne__" [.ref l]) Q E s:=by
 simp only[callSpecialIfBound?,bindSpecialIfBound?];refine bd (ad (ad (ad (I.type.here ((looks_findIn X h2).here ?_)))));simp only[PySem.F.cmp_object.ne.bind];have fin:wpAny (model prog w) A (call (.builtin "object.__ne__") ([.ref l]++[.ref l]) >>= λv=>pure (some v)) Q E s:=by
  refine ad (wpAny_call (codeAny_call_builtin PySem.F.cmp_object.ne.plain PySem.F.cmpEntry_ne ?_));simp only[checkBuiltinCall,PySem.F.cmpKind_ne,PySem.F.cmpSplit_ne];refine ad (ad (I.type.here ((looks_subIn X h3).here ?_)));rw[if_neg (by simp)];have ha:=PySem.F.cmpArgs_ne (.ref l) (.ref l);have h0:(match Manifest.signature? "object.__ne__" with|some sig=>Bind.checkArgs "object.__ne__" sig { pos:=[Value.ref l]++[Value.ref l] }|x=>pure ())=pure ():=ha;refine wpAny_of_eq h0 ?_;unfold Builtin.«object.__ne__»;show wpAny _ _ (pure (Value.ref l,[Value.ref l]) >>= _) _ _ _;refine ad (am ?_);refine ad (wpAny_cRoomFor (show A.units+1<cLine by omega) ?_);refine ad (Ah X I h1 h3 ?_);refine ad (bi ?_);exact am (am h)
 refine ad (wpAny_askSetting (wpAny_ite ?_))
 split
 .exact ad (am (am fin))
 .exact wpAny_tryCatch (ad (am (am fin)))
def oh (X:K.In s.heap)(I:InstAt s.heap l (instObj C dx) C od)(hC:ky K C=true)(hu:A.units+3<cLine):SeqAt.RcNeAt A s (.ref l) (.ref l) false:=λprog w E Q h=>by
 unfold ky rS at hC;simp only[lw,beq_iff_eq]at hC;obtain⟨h0,⟨h1,h2⟩,h3⟩:=hC;simp only[richCompare,PySem.cmpInfo_NotEq]
 try with_reducible refine bd ?_
 refine ad (wpAny_cRoomFor nofun ?_);show wpAny _ _ (typeOf (Value.ref l) >>= _) _ _ _;refine ad (I.type.here (ad (I.type.here ?_)));rw[if_neg (by simp)];refine ad (am ?_);rw[if_neg (by simp)];refine ad ?_;simp only[tryCompare];refine ad (zY X I h1 h0 h3 nofun ?_);exact am (am h)
def yA (d:Addr)(hd:(d ==sysModules)=false)(dd:Option Addr)(ep:Nat)(sl:Array (Option Value)):Meets (Builtin.«dict.__ne__» ⟨[.ref d,.ref d],[]⟩) (λ_ R s=>s.heap.get? d=some ⟨.type "dict",dd,.dict #[] ep,sl⟩/\R (.ok (.ret (.bool false))) s):=by
 intro prog w A R s hs;obtain⟨h,g,dp,tt,os⟩:=s;obtain⟨ho,q⟩:=hs;have hT:(⟨h,g,dp,tt,os⟩:Shared).TypeIs (.ref d) "dict":=⟨_,ho,rfl⟩;unfold Builtin.«dict.__ne__»
 k_delta "equality"
 unfold Builtin.Dict.dictSlotArgs;refine ad (ad (wpAny_notOrdered_dict hT ?_));show wpAny _ _ (pure (Value.ref d,[Value.ref d]) >>= _) _ _ _;refine ad (am (am ?_));have hi:=PySem.F.kt_sub_dict;show wpAny _ _ (isInstance (.ref d) (.type "dict") >>= _) _ _ _;unfold Builtin.Dict.samePairs;simp only[Std.Legacy.Range.forIn_eq_forIn_range']
 repeat(any_goals first|assumption|wp_step)
def uD (hd:(d ==sysModules)=false){ep:Nat}(ho:s.heap.get? d=some ⟨.type "dict",dd,.dict #[] ep,sl⟩) (hu:A.units<cLine):SeqAt.RcNeAt A s (.ref d) (.ref d) false:=λprog w E Q h=>
 richCompare_meets_room (op:=.NotEq) ⟨_,ho,rfl⟩ ⟨_,ho,rfl⟩ PySem.F.slot_dict_ne PySem.F.entry_dict_ne (PySem.F.args_dict_ne_2 _ _) (yA d hd dd ep sl) ⟨ho,show Value.bool false≠Value.notImplemented/\Q (.bool false) s from⟨(λx=>nomatch x),h⟩⟩ hu
abbrev qL (K:W.Frag)(H:Hp)(a:Addr):Prop:=(∃ xs,cV K H a xs)\/H a=some (.dK [])\/(∃ C dx fs,H a=some (.ins C dx fs)/\ky K C=true)\/∃ xs,aA K H a xs
def tH {U:St}{H:Hp}{a:Addr}(I:Inv X Y U H s)(h:qL X.K H a)(hu:A.units+3<cLine):SeqAt.RcNeAt A s (.ref a) (.ref a) false:=by
 rcases h with⟨xs,h⟩|h|⟨C,dx,fs,h,hn⟩|⟨xs,h⟩
 .obtain⟨ia,ra,pa,_⟩:=I.tuple h;have rc:=SeqAt.RcNeAt.tuples (A:=A) (e:=λ_=>true) (show s.heap.IsTuple a ia.toArray from pa) (show s.heap.IsTuple a ia.toArray from pa) nofun λj h1 h2=>SeqAt.EqAt.same _
  have e:((List.range (min ia.toArray.size ia.toArray.size)).all (λ_=>true)&&ia.toArray.size ==ia.toArray.size)=true:=by simp
  rw[e]at rc;exact rc
 .obtain⟨z,hd,vs,rel,dd⟩:=eO I.hok (.inl h);cases rel;obtain⟨⟨c,d,da,sl⟩,es,ep,ho,hx,he,_,hp,_⟩:=dd;have e0:es=#[]:=by
   cases hp':es.toList with
   |nil=>exact Array.toList_eq_nil_iff.mp hp'
   |cons a b=>rw[hp']at hp;cases hp
  subst e0;obtain rfl:da=.dict #[] ep:=he;obtain⟨rfl,_⟩:=hx;exact uD hd ho nofun
 .obtain⟨mA,o,_⟩:=cS I.hok h;obtain⟨od,i,_⟩:=o.look;exact oh I.aT i hn hu
 .obtain⟨ia,ra,pa,_⟩:=I.list h;have rc:=SeqAt.RcNeAt.lists (A:=A) (e:=λ_=>true) pa.isList pa.isList rfl nofun λj h1 h2=>SeqAt.EqAt.same _
  have e:(List.range ia.toArray.size).all (λ_=>true)=true:=by simp
  rw[e]at rc;exact rc
end
end L2
namespace L2
open PySem PySem.Spec PyProof.Rows
section
variable {X:Cx}{tg:Expr}
end
end L2
namespace L2
open PySem PySem.Spec PySem.W PyProof.Rows
open PySem.AutoSeq1 (wpAny_loadPart')
section
variable {prog:Program}{w:World}{A:Around}{E:CC}{s:Shared}
end
section
variable {X:Cx}{Y:CD}{U:St}{H:Hp}{s:Shared}
end
def oj {X:Cx}(hc:X.calm=true):bG X (.builtin "sum") (λxs H Q=>∃ p,∃ (ns:List Int),xs=[.ref p]/\aA X.K H p (ns.map V.int)/\Q (.int ns.sum) H):=by
 intro Y s U H xs us Q I r h;obtain⟨p,ns,rfl,hq,q⟩:=h;obtain⟨u,rfl,rx⟩:=vals1 r;cases rx;obtain⟨its,r',pl,hz⟩:=I.list hq;obtain⟨ps,rfl,en⟩:=mi r';have hL:s.heap.IsList p (intItems ps.toArray):=by
  have:=pl.isList;simpa[intItems] using this
 refine sum_intListG (I.ok.hd hc) hL λh' tk t' hk=>?_
 have e2:preSum (numAt ps.toArray) ps.toArray.size=ns.sum:=by
  rw[preSum_eq,take_of_length_le (by simp),<-en]
 rw[e2];exact⟨.int ns.sum,H,I.kept hk,⟨_,rfl⟩,q⟩
section
variable {prog:Program}{w:World}{A:Around}{E:CC}{s:Shared}
variable {z TI TO i1 i2 i3 l1 l2 l3:Addr}{k1 k2 k3:Nat}{tp1 tp2 tp3:Bool}{xs ys zs:Array Value}{x y v a b c f1:Value}
end
variable {X:Cx}{e es:Expr}{te:TE}{ts:TO}{p2 pos:Pos}
def mR:∀ {xs:List V}{us:List Value},xs.length=us.length->(∀ (j:Nat) (x:V) (u:Value),xs[j]? =some x->us[j]? =some u->RelV x u)->Vals xs us
 | [],[],_,_=>.nil
 |x::xs,u::us,e,h=>.cons (h 0 x u rfl rfl) (mR (Nat.succ.inj e) λj a b e1 e2=>h (j+1) a b e1 e2)
def iq:∀ {kvs:List (Key×V)}{vs:List (Key×Value)},KV kvs vs->kvs.map (·.1)=vs.map (·.1)
 |_,_,.nil=>rfl
 |_,_,.cons r rs=>by rw[map_cons,map_cons,r.1,iq rs]
def kq {Y:CD}{U:St}{H:Hp}{s:Shared}{Q:VK}{d:Addr}{kvs:List (Key×V)}(hc:X.calm=true)(I:Inv X Y U H s)(e:Rd H d (.dK kvs))(q:∀ p,H p=none->Q (.ref p) (upd H p (.lst (kvs.map (λkv=>kV kv.1))))):
  wpAny (model X.prog X.w) X.A (call (.type "list") [.ref d]) (EP X Y U Q) X.xe s:=by
 obtain⟨hz,hd,vs,rel,dd⟩:=eO I.hok e;obtain⟨o,es,ep,ho,hx,he,hk,hp,hn⟩:=dd;have hA:s.heap.DictAt (aw X.prog X.w) d vs ep:=⟨o,es,ho,hx,he,hk,hp,hn⟩;have hl:vs.length<=bn:=by rw[<-rel.length];exact hz
 refine kdl_call (kdl_dict hd) (I.ok.hd hc) hA hl λh' tk acc c' hk' hD hi=>?_
 have r:Vals (kvs.map (λkv=>kV kv.1)) acc.toList:=mR ((ce ..).trans (rel.length.trans (hi.1.symm.trans Array.length_toList.symm))) λj x u e1 e2=>by
  rw[io]at e1;obtain⟨⟨k,y⟩,ek,rfl⟩:=mo.mp e1;obtain⟨k',y',ek',hs⟩:=hi.2 j u (by rw[<-Array.getElem?_toList];exact e2);have ekk:k=k':=by
   have h2:(kvs.map (·.1))[j]? =(vs.map (·.1))[j]? :=by rw[iq rel]
   rw[io,io,ek,ek']at h2;exact Option.some.inj h2
  subst ekk;rcases ak hs with⟨i,t,rfl,rfl⟩|⟨z,t,rfl,rfl⟩
  .exact⟨t,rfl⟩
  .exact⟨t,rfl⟩
 exact⟨.ref _,_,I.laid (t':=tk) hk' (ol _) (show aj X.prog X.w _ h' _ (.lst (kvs.map (λkv=>kV kv.1))) from⟨by rw[ce];exact hz,acc.toList,c',r,by rw[Array.toArray_toList];exact hD⟩),rfl,q _ (I.hok.fresh (ol _))⟩
end L2
namespace L2
open PySem PySem.Spec PyProof.Rows
abbrev vh (z:Str):It:=⟨λi _=>i<z.cps.size,λi H x H'=>H'=H/\∃ c,z.cps[i]? =some c/\x=.str ⟨#[c]⟩,λi _=>z.cps.size<=i⟩
variable {P:Program}{w:World}{K:W.Frag}{tg:Expr}
def qv (it:Addr)(z:Str)(t:Tok):Turn P w K tg (vh z) [it] it (λi h=>h.IsStrIter it (strIterType z) z t i) where
 mem:=by simp
 obj:=λi h st b hb=>by
  have e:b=it:=by simpa using hb
  subst e;obtain⟨o,e,c,d⟩:=st;exact⟨o,e,λv z=>by rw[d]at z;cases z⟩
 keep:=λi h h' st k=>let⟨o,ho,r⟩:=st;⟨o,k it (by simp) o ho,r⟩
 item:=by
  intro X hP hw hK hc i Y s U H E I hf st hg;subst hP hw hK;obtain⟨f0,f1,f2,f3,f4,f5⟩:=hf it (by simp);have go:∀ T,(T="str_ascii_iterator"\/T="str_iterator")->strIterType z=T->wpAny (model X.prog X.w) X.A (pyNext (.ref it)) (λr s1=>∃ u,r=some u/\
   wpAny (model X.prog X.w) X.A (letOwnedTupleGo tg (.ref it) u) (λ_ s2=>∃ x H',Inv X Y U H' s2/\RelV x u/\(vh z).yld i H x H'/\s2.heap.IsStrIter it (strIterType z) z t (i+1)/\∀ b ∈ [it],H' b=none) E s1) E s:=by
   intro T hT eT;rw[eT]at st⊢;have fin:∀ v h' tk,SignAt z i v->h'.IsStrIter it T z t (i+1)->(∀ b o,b ∉ [it]->s.heap.get? b=some o->h'.get? b=some o)->∃ u,some v=some u/\
    wpAny (model X.prog X.w) X.A (letOwnedTupleGo tg (.ref it) u) (λ_ s2=>∃ x H',Inv X Y U H' s2/\RelV x u/\(vh z).yld i H x H'/\s2.heap.IsStrIter it T z t (i+1)/\∀ b ∈ [it],H' b=none) E { s with heap:=h',toks:=tk }:=by
    intro v h' tk hv st' kk;obtain⟨c,u,hc',rfl⟩:=hv;have I1:Inv X Y U H { s with heap:=h',toks:=tk }:=I.turned (λb o hb e=>kk b o (by simpa using hb) e) f0 f1 f3 f4 f5;obtain⟨o,e,cc,d⟩:=id st';exact⟨_,rfl,kf (s:={ s with heap:=h',toks:=tk }) e cc d (by rcases hT with rfl|rfl<;>decide) ⟨.str ⟨#[c]⟩,H,I1,⟨u,rfl⟩,⟨rfl,c,hc',rfl⟩,st',λb hb=>(hf b hb).1⟩⟩
   rcases hT with rfl|rfl
   .exact(Walks.strAscii (prog:=X.prog) (w:=X.w) (I.ok.hd hc) it z t).item i s _ _ hg st fin
   .exact(Walks.strWide (prog:=X.prog) (w:=X.w) (I.ok.hd hc) it z t).item i s _ _ hg st fin
  have hz:strIterType z="str_ascii_iterator"\/strIterType z="str_iterator":=by unfold strIterType;split<;>simp
  exact go _ hz rfl
 done:=by
  intro X hP hw hK hc i Y s U H E I hf st hg;subst hP hw hK;obtain⟨f0,f1,f2,f3,f4,f5⟩:=hf it (by simp);have hx:z.cps[i]? =none:=Array.getElem?_eq_none hg;have fin:∀ h',Heap.ExtBut it s.heap h'->(none:Option Value)=none/\Inv X Y U H { s with heap:=h' }:=λh' eb=>⟨rfl,I.turned (t':=s.toks) (λb o hb e=>eb b o hb e) f0 f1 f3 f4 f5⟩
  unfold strIterType at st
  split at st
  .exact wpAny_pyNext_ascii_end (I.ok.hd hc) st hx fin
  .exact wpAny_pyNext_wide_end (I.ok.hd hc) st hx fin
 self:=λ_ _ _ _ _ st h=>by
  unfold strIterType at st
  split at st
  .exact wpAny_pyIter_striter_ascii st h
  .exact wpAny_pyIter_striter_wide st h
variable {X:Cx}{Y:CD}{U:L2.St}{H1:Hp}{s1:Shared}{R:It->Hp->Prop}{v:Value}
def rG {z:Str}(I1:Inv X Y U H1 s1)(r:RelV (.str z) v)(q:R (vh z) H1):
  wpAny (model X.prog X.w) X.A (pyIter v) (xh X Y U tg R) X.xe s1:=by
 obtain⟨t,rfl⟩:=r;refine wpAny_pyIter_strU ?_;refine⟨s1.heap.objs.size,[s1.heap.objs.size],_,_,H1,rfl,I1.kept (t':=s1.toks) λb o e=>sn _ e,qv _ z t,⟨_,sw _ rfl,rfl,rfl⟩,λb hb=>?_,q⟩;have e:b=s1.heap.objs.size:=by simpa using hb
 subst e;exact I1.ql (ol _) (I1.hok.fresh (ol _))
abbrev vn (d:Addr)(o:Obj)(kvs:List (Key×V)):It:=⟨λi H=>i<kvs.length/\H d=some (.aP o (.dK kvs)),λi H x H'=>H'=H/\∃ kv,kvs[i]? =some kv/\x=kV kv.1,λi H=>kvs.length<=i/\H d=some (.aP o (.dK kvs))⟩
variable {d:Addr}{kvs:List (Key×V)}
def lD {H:Hp}{h:Heap}{o:Obj}(ok:c4 P w H h)(e:H d=some (.aP o (.dK kvs))):∃ vs es ep,KV kvs vs/\o.data=.dict es ep/\h.DictAt (aw P w) d vs ep:=by
 obtain⟨ho,_,_,vs,rel,o',es,ep,ho',hx,he,hk,hp,hn⟩:=(show aj P w H h d (.aP o (.dK kvs)) from ok d _ e);rw[ho]at ho';cases ho';exact⟨vs,es,ep,rel,he,o,es,ho,hx,he,hk,hp,hn⟩
def pM (d it:Addr)(o:Obj)(kvs:List (Key×V)):Turn P w K tg (vn d o kvs) [it] it (λi h=>∃ es ep,o.data=.dict es ep/\h.IsKeyIter it d i kvs.length ep) where
 mem:=by simp
 obj:=λi h st b hb=>by
  have e:b=it:=by simpa using hb
  subst e;obtain⟨_,_,_,o,e,c,d⟩:=st;exact⟨o,e,λv z=>by rw[d]at z;cases z⟩
 keep:=λi h h' ⟨es,ep,e,st⟩ k=>⟨es,ep,e,st.at λo e=>k it (by simp) o e⟩
 item:=by
  intro X hP hw hK hc i Y s U H E I hf st hg;subst hP hw hK;obtain⟨f0,f1,f2,f3,f4,f5⟩:=hf it (by simp);obtain⟨es,ep,he,st⟩:=st;obtain⟨vs,es',ep',rel,he',hA⟩:=lD I.hok hg.2;rw[he]at he';cases he';have hl:=rel.length;rw[hl]at st;obtain⟨⟨k,v⟩,hx⟩:∃ p,vs[i]? =some p:=⟨_,lf (by rw[<-hl];exact hg.1)⟩;refine wpAny_pyNext_dict_item st hA hx λkey h' hkey st' sb=>?_
  have I1:Inv X Y U H { s with heap:=h' }:=I.turned (t':=s.toks) (λb o hb e=>(sb.2 b hb).trans e) f0 f1 f3 f4 f5;obtain⟨o',e,cc,dd⟩:=id st';have hk:∃ kv,kvs[i]? =some kv/\kv.1=k:=by
   have h2:(kvs.map (·.1))[i]? =(vs.map (·.1))[i]? :=by rw[iq rel]
   rw[io,io,hx]at h2;obtain⟨kv,e1,e2⟩:=mo.mp h2;exact⟨kv,e1,e2⟩
  obtain⟨kv,e1,rfl⟩:=hk;refine⟨key,rfl,kf (s:={ s with heap:=h' }) e cc dd (by decide) ⟨kV kv.1,H,I1,?_,⟨rfl,kv,e1,rfl⟩,⟨es,ep,he,by rw[hl];exact st'⟩,λb hb=>(hf b hb).1⟩⟩;rcases ak hkey with⟨j,t,e,rfl⟩|⟨z,t,e,rfl⟩
  .rw[e];exact⟨t,rfl⟩
  .rw[e];exact⟨t,rfl⟩
 done:=by
  intro X hP hw hK hc i Y s U H E I hf st hg;subst hP hw hK;obtain⟨f0,f1,f2,f3,f4,f5⟩:=hf it (by simp);obtain⟨es,ep,he,st⟩:=st;obtain⟨vs,es',ep',rel,he',hA⟩:=lD I.hok hg.2;rw[he]at he';cases he';have hl:=rel.length;rw[hl]at st;exact wpAny_pyNext_dict_end (I.ok.hd hc) st hA (List.getElem?_eq_none (by rw[<-hl];exact hg.1)) λh' eb=>⟨rfl,I.turned (t':=s.toks) (λb o hb e=>eb b o hb e) f0 f1 f3 f4 f5⟩
 self:=λ_ _ _ _ _ ⟨_,_,_,st⟩ h=>wpAny_pyIter_keyiter st h
def Inv.aP {X:Cx}{Y:CD}{U:L2.St}{H:Hp}{s:Shared}{d:Addr}{kvs:List (Key×V)}(I:Inv X Y U H s)(e:H d=some (.dK kvs)):∃ o,Inv X Y U (upd H d (.aP o (.dK kvs))) s:=by
 obtain⟨_,_,vs,rel,o,es,ep,ho,r⟩:=id (show aj X.prog X.w H s.heap d (.dK kvs) from I.hok d _ e);have ne:∀ b u,H b=some u->u≠.dK kvs->b≠d:=λb u hb hn z=>by subst z;rw[e]at hb;cases hb;exact hn rfl
 refine⟨o,I.step (h':=s.heap) (t':=s.toks) (g':=s.gens) (d':=s.drawn) (ch:=[]) (λ_ z=>nomatch z) (λb o _ _ _ e _=>e) (λb o _ _ _ e _=>⟨o.slots,e⟩) (λb o _ _ n=>by rw[af (λz=>by subst z;rw[e]at n;cases n)];exact n) (λb o _ e=>⟨o,e⟩)
  (λb xs h=>by rw[af (ne b _ h (λz=>by cases z))];exact h) (λb o u h=>by rw[af (ne b _ h (λz=>by cases z))];exact h) (λb ps h=>⟨#[],by rw[af (ne b _ h (λz=>by cases z)),h];simp⟩) (λm hm=>hm) (λb u hb=>?_) I.bare⟩
 have du:∀ b u,H b=some u->aj X.prog X.w (upd H d (.aP o (.dK kvs))) s.heap b u:=λb u hb=>(I.hok b u hb).du (λ_ _ _ e=>e) (λc hc=>by rw[af (ne c _ hc (λz=>by cases z))];exact hc) (λc xs hc=>by rw[af (ne c _ hc (λz=>by cases z))];exact hc)
 by_cases z:b=d
 .subst z;rw[ah]at hb;cases hb;exact⟨ho,du _ _ e⟩
 .rw[af z]at hb;exact du b u hb
def ji {o:Obj}(I1:Inv X Y U H1 s1)(r:RelV (.ref d) v)(e:H1 d=some (.aP o (.dK kvs)))(q:R (vn d o kvs) H1):
  wpAny (model X.prog X.w) X.A (pyIter v) (xh X Y U tg R) X.xe s1:=by
 cases r;obtain⟨vs,es,ep,rel,he,hA⟩:=lD I1.hok e;obtain⟨_,_,hd,_⟩:=(show aj X.prog X.w H1 s1.heap d (.aP o (.dK kvs)) from I1.hok d _ e);refine wpAny_pyIter_dict hd hA ?_;refine⟨s1.heap.objs.size,[s1.heap.objs.size],_,_,H1,rfl,I1.kept (t':=s1.toks) λb o e=>sn _ e,pM d _ o kvs,⟨es,ep,he,_,sw _ rfl,rfl,by rw[<-rel.length];rfl⟩,λb hb=>?_,q⟩;have e:b=s1.heap.objs.size:=by simpa using hb
 subst e;exact I1.ql (ol _) (I1.hok.fresh (ol _))
def ng (I1:Inv X Y U H1 s1)(r:RelV (.ref d) v)(e:H1 d=some (.dK kvs))(q:∀ o,R (vn d o kvs) (upd H1 d (.aP o (.dK kvs)))):
  wpAny (model X.prog X.w) X.A (pyIter v) (xh X Y U tg R) X.xe s1:=by
 obtain⟨o,I2⟩:=I1.aP e;exact ji I2 r ah (q o)
section
variable {X:Cx}
def g7:∀ {us:List Value}{ys:List Str},Vals (ys.map V.str) us->StrsAre us ys
 |_,[],.nil=>.nil
 |_,y::ys,.cons r h=>by
  obtain⟨t,rfl⟩:=r;exact .cons y t (g7 h)
abbrev rJoin (K:W.Frag):V->List V->Hp->VK->Prop:=λx vs H Q=>∃ z p,∃ ys:List Str,x=.str z/\vs=[.ref p]/\aA K H p (ys.map V.str)/\(ys.map (·.length)).sum+ys.length<=1000000/\z.length<=16/\Q (.str (Txt.join z ys)) H
def tG:yb X "str.join" (rJoin X.K):=by
 intro Y s U H x vs v us Q I rx rv h;obtain⟨z,p,ys,rfl,rfl,hp,hw,hz,q⟩:=h;obtain⟨t,rfl⟩:=rx;cases rv with
 |cons r rv=>
  cases rv;cases r;obtain⟨its,rl,pl,_⟩:=I.list hp;exact join_listW pl.isList (by rw[List.toList_toArray];exact g7 rl) hz nofun λt' k=>⟨.str _,H,I.tok _,⟨t',rfl⟩,q⟩
end
inductive jd (K:W.Frag) (H:Hp):Nat->V->V->Bool->Prop where
 |flat {n:Nat}{x y:V}(fx:au x=true) (fy:au y=true):jd K H n x y (fm x y)
 |same {n:Nat}(a:Addr):jd K H (n+1) (.ref a) (.ref a) true
 |ll {n:Nat}{a b:Addr}{xs ys:List V}{e:Nat->Bool}(ha:aA K H a xs) (hb:aA K H b ys) (hl:xs.length=ys.length) (h:∀ j x y,xs[j]? =some x->ys[j]? =some y->jd K H (n+1) x y (e j)):jd K H (n+2) (.ref a) (.ref b) ((List.range xs.length).all e)
 |lln {n:Nat}{a b:Addr}{xs ys:List V}(ha:aA K H a xs) (hb:aA K H b ys) (hl:xs.length≠ys.length):jd K H (n+2) (.ref a) (.ref b) false
 |tt {n:Nat}{a b:Addr}{xs ys:List V}{e:Nat->Bool}(ha:cV K H a xs) (hb:cV K H b ys) (h:∀ j x y,xs[j]? =some x->ys[j]? =some y->jd K H (n+1) x y (e j)):jd K H (n+2) (.ref a) (.ref b) ((List.range (min xs.length ys.length)).all e&&xs.length ==ys.length)
variable {A:Around}
section
variable {X:Cx}{Y:CD}{s:Shared}{U:St}{H:Hp}
def qg {y x:V}{u:Value}(ry:RelV y u)(rx:RelV x v)(fy:au y=true)(fx:au x=true):SeqAt.RcAt A s u v (fm y x):=by
 cases y<;>first|cases fy|skip
 all_goals (cases x<;>first|cases fx|skip)
 all_goals (first|(obtain⟨t,rfl⟩:=ry)|cases ry)
 all_goals (first|(obtain⟨t',rfl⟩:=rx)|cases rx)
 .exact SeqAt.RcAt.none_none
 .exact SeqAt.RcAt.none_bool _
 .exact SeqAt.RcAt.none_int _ _
 .exact SeqAt.RcAt.none_str _ _
 .exact SeqAt.RcAt.bool_none _
 .exact SeqAt.RcAt.bool_bool _ _
 .exact SeqAt.RcAt.bool_int _ _ _
 .exact SeqAt.RcAt.bool_str _ _ _
 .exact SeqAt.RcAt.int_none _ _
 .exact SeqAt.RcAt.int_bool _ _ _
 .exact SeqAt.RcAt.int_int _ _ _ _
 .exact SeqAt.RcAt.int_str _ _ _ _
 .exact SeqAt.RcAt.str_none _ _
 .exact SeqAt.RcAt.str_bool _ _ _
 .exact SeqAt.RcAt.str_int _ _ _ _
 .exact SeqAt.RcAt.str_str _ _ _ _
def jQ {y x:V}{u:Value}(ry:RelV y u)(rx:RelV x v)(fy:au y=true)(fx:au x=true):SeqAt.RcNeAt A s u v (!fm y x):=by
 cases y<;>first|cases fy|skip
 all_goals (cases x<;>first|cases fx|skip)
 all_goals (first|(obtain⟨t,rfl⟩:=ry)|cases ry)
 all_goals (first|(obtain⟨t',rfl⟩:=rx)|cases rx)
 .exact SeqAt.RcNeAt.none_none
 .exact SeqAt.RcNeAt.none_bool _
 .exact SeqAt.RcNeAt.none_int _ _
 .exact SeqAt.RcNeAt.none_str _ _
 .exact SeqAt.RcNeAt.bool_none _
 .exact SeqAt.RcNeAt.bool_bool _ _
 .exact SeqAt.RcNeAt.bool_int _ _ _
 .exact SeqAt.RcNeAt.bool_str _ _ _
 .exact SeqAt.RcNeAt.int_none _ _
 .exact SeqAt.RcNeAt.int_bool _ _ _
 .exact SeqAt.RcNeAt.int_int _ _ _ _
 .exact SeqAt.RcNeAt.int_str _ _ _ _
 .exact SeqAt.RcNeAt.str_none _ _
 .exact SeqAt.RcNeAt.str_bool _ _ _
 .exact SeqAt.RcNeAt.str_int _ _ _ _
 .exact SeqAt.RcNeAt.str_str _ _ _ _
def eqv_refl (I:Inv X Y U H s):∀ {n:Nat}{x y:V}{b:Bool},jd X.K H n x y b->x=y->b=true:=by
 intro n x y b h
 induction h with
 | @flat n x y fx fy=>
  rintro rfl;cases x<;>first|(exact absurd fx Bool.false_ne_true)|simp[fm]
 |same a=>intro _;rfl
 | @ll n a b xs ys e ha hb hl h ih=>
  intro z;cases z;have:=I.dJ ha hb;subst this;rw[all_eq_true];intro j hj;have hj':j<xs.length:=mem_range.mp hj;exact ih j _ _ (lf hj') (lf hj') rfl
 |lln ha hb hl=>intro z;cases z;exact absurd (congrArg List.length (I.dJ ha hb)) hl
 | @tt n a b xs ys e ha hb h ih=>
  intro z;cases z;have:=I.gK ha hb;subst this;rw[beq_self_eq_true,Bool.and_true,Nat.min_self,all_eq_true];intro j hj;have hj':j<xs.length:=mem_range.mp hj;exact ih j _ _ (lf hj') (lf hj') rfl
def fQ (I:Inv X Y U H s):∀ {n:Nat}{x y:V}{b:Bool},jd X.K H n x y b->∀ {A:Around}{u v:Value},A.units+n<cLine->RelV x u->RelV y v->
  (SeqAt.EqAt A s u v b)/\(x=y\/SeqAt.RcAt A s u v b/\SeqAt.RcNeAt A s u v (!b)):=by
 intro n x y b h
 induction h with
 |flat fx fy=>intro A u v _ rx ry;exact⟨rO rx ry fx fy,.inr ⟨qg rx ry fx fy,jQ rx ry fx fy⟩⟩
 |same a=>intro A u v _ rx ry;cases rx;cases ry;exact⟨SeqAt.EqAt.same _,.inl rfl⟩
 | @ll n a b xs ys e ha hb hl h ih=>
  intro A u v hu rx ry;have hall:=jd.ll ha hb hl h;cases rx;cases ry
  by_cases hab:a=b
  .subst hab;have z:=eqv_refl I hall rfl;rw[z];exact⟨SeqAt.EqAt.same _,.inl rfl⟩
  obtain⟨ia,ra,pa,_⟩:=I.list ha;obtain⟨ib,rb,pb,_⟩:=I.list hb;have e1:ia.toArray.size=xs.length:=by rw[ge,ra.length]
  have e2:ib.toArray.size=ys.length:=by rw[ge,rb.length]
  have he:∀ j (h1:j<ia.toArray.size) (h2:j<ib.toArray.size),SeqAt.EqAt A.in1 s ia.toArray[j] ib.toArray[j] (e j):=λj h1 h2=>by
   obtain⟨x1,f1,r1⟩:=fu ra h1;obtain⟨y1,f2,r2⟩:=fu rb h2;exact(ih j x1 y1 f1 f2 (by show A.units+1+(n+1)<cLine;omega) r1 r2).1
  have rc:=SeqAt.RcAt.lists (A:=A) pa.isList pb.isList (by rw[e1,e2,hl]) nofun he;have rn:=SeqAt.RcNeAt.lists (A:=A) pa.isList pb.isList (by rw[e1,e2,hl]) nofun he;rw[e1]at rc rn;exact⟨SeqAt.EqAt.of_refs hab rc,.inr ⟨rc,rn⟩⟩
 | @lln n a b xs ys ha hb hl=>
  intro A u v hu rx ry;cases rx;cases ry;obtain⟨ia,ra,pa,_⟩:=I.list ha;obtain⟨ib,rb,pb,_⟩:=I.list hb;have hab:a≠b:=λz=>by subst z;exact hl (congrArg List.length (I.dJ ha hb))
  have hz:(ia.toArray.size != ib.toArray.size)=true:=by
   rw[ge,ge,<-ra.length,<-rb.length];simpa using hl
  have rc:=SeqAt.RcAt.lists_lengths (A:=A) pa.isList pb.isList hz nofun;exact⟨SeqAt.EqAt.of_refs hab rc,.inr ⟨rc,SeqAt.RcNeAt.lists_lengths (A:=A) pa.isList pb.isList hz nofun⟩⟩
 | @tt n a b xs ys e ha hb h ih=>
  intro A u v hu rx ry;have hall:=jd.tt ha hb h;cases rx;cases ry
  by_cases hab:a=b
  .subst hab;have z:=eqv_refl I hall rfl;rw[z];exact⟨SeqAt.EqAt.same _,.inl rfl⟩
  obtain⟨ia,ra,pa,_⟩:=I.tuple ha;obtain⟨ib,rb,pb,_⟩:=I.tuple hb;have e1:ia.toArray.size=xs.length:=by rw[ge,ra.length]
  have e2:ib.toArray.size=ys.length:=by rw[ge,rb.length]
  have he:∀ j (h1:j<ia.toArray.size) (h2:j<ib.toArray.size),SeqAt.EqAt A.in1 s ia.toArray[j] ib.toArray[j] (e j):=λj h1 h2=>by
   obtain⟨x1,f1,r1⟩:=fu ra h1;obtain⟨y1,f2,r2⟩:=fu rb h2;exact(ih j x1 y1 f1 f2 (by show A.units+1+(n+1)<cLine;omega) r1 r2).1
  have rc:=SeqAt.RcAt.tuples (A:=A) (show s.heap.IsTuple a ia.toArray from pa) (show s.heap.IsTuple b ib.toArray from pb) nofun he;have rn:=SeqAt.RcNeAt.tuples (A:=A) (show s.heap.IsTuple a ia.toArray from pa) (show s.heap.IsTuple b ib.toArray from pb) nofun he;rw[e1,e2]at rc rn;exact⟨SeqAt.EqAt.of_refs hab rc,.inr ⟨rc,rn⟩⟩
@[irreducible] noncomputable def cU (K:W.Frag) (neg:Bool):R2:=λx y H Q=>∃ n b,jd K H n x y b/\n<=100/\(au x=true\/x≠y\/(neg=false/\∃ a,x=.ref a/\sh K H a)\/(neg=true/\∃ a,x=.ref a/\qL K H a))/\Q (.bl (if neg then !b else b)) H
def w4 (hu:X.A.units+200<cLine):bp X (compareOp .Eq) (cU X.K false):=by
 intro Y s U H x y v u Q I rx ry h;unfold cU at h;obtain⟨n,b,e,hn,hx,q⟩:=h;rcases(fQ I e (A:=X.A) nofun rx ry).2 with z|⟨z,_⟩
 .subst z;rcases hx with hx|hx
  .have z:=eqv_refl I e rfl;have r:=qg (s:=s) (A:=X.A) rx ry hx hx;have z2:=eqv_refl I (jd.flat (K:=X.K) (H:=H) (n:=0) hx hx) rfl;rw[z2]at r;rw[z]at q;exact PySem.EqBoolInt.of_rc r ⟨.bl true,H,I,rfl,q⟩
  rcases hx with hx|⟨_,a,rfl,hs⟩|⟨hx,_⟩
  .exact absurd rfl hx
  .have z:=eqv_refl I e rfl;rw[z]at q;cases rx;cases ry;exact PySem.EqBoolInt.of_rc (tE (A:=X.A) I hs nofun) ⟨.bl true,H,I,rfl,q⟩
  .cases hx
 .exact PySem.EqBoolInt.of_rc z ⟨.bl b,H,I,rfl,q⟩
def ym (hu:X.A.units+200<cLine):bp X (compareOp .NotEq) (cU X.K true):=by
 intro Y s U H x y v u Q I rx ry h;unfold cU at h;obtain⟨n,b,e,hn,hx,q⟩:=h;rcases(fQ I e (A:=X.A) nofun rx ry).2 with z|⟨_,z⟩
 .subst z;rcases hx with hx|hx
  .have z:=eqv_refl I e rfl;have r:=jQ (s:=s) (A:=X.A) rx ry hx hx;have z2:=eqv_refl I (jd.flat (K:=X.K) (H:=H) (n:=0) hx hx) rfl;rw[z2]at r;rw[z]at q;exact PySem.EqBoolInt.of_rcne r ⟨.bl false,H,I,rfl,q⟩
  rcases hx with hx|⟨hx,_⟩|⟨_,a,rfl,hs⟩
  .exact absurd rfl hx
  .cases hx
  .have z:=eqv_refl I e rfl;rw[z]at q;cases rx;cases ry;exact PySem.EqBoolInt.of_rcne (tH (A:=X.A) I hs nofun) ⟨.bl false,H,I,rfl,q⟩
 .exact PySem.EqBoolInt.of_rcne z ⟨.bl (!b),H,I,rfl,q⟩
end
@[irreducible] noncomputable def tJ (K:W.Frag) (a b:Addr) (H:Hp) (Q:VK):Prop:=(∃ xs ys,H a=some (.lst xs)/\H b=some (.lst ys)/\xs.length+ys.length<=100000/\∀ p,H p=none->Q (.ref p) (upd H p (.lst (xs++ys))))\/False
@[irreducible] noncomputable def uw (K:W.Frag) (a:Addr) (k:Int) (H:Hp) (Q:VK):Prop:=(∃ xs,H a=some (.lst xs)/\ -1000<=k/\k<=1000/\xs.length<=1000/\∀ p,H p=none->Q (.ref p) (upd H p (.lst (pi k.toNat xs).flatten)))\/False
abbrev wN (K:W.Frag):R2:=λx y H Q=>match x,y with
 | .int i,.int j=>Q (.int (i+j)) H
 | .str a,.str b=>a.length+b.length<=100000/\Q (.str (a++b)) H
 | .ref a,.ref b=>tJ K a b H Q
 |_,_=>False
abbrev vK:R2:=λx y H Q=>match x,y with
 | .int i,.int j=>Q (.int (i-j)) H
 |_,_=>False
@[irreducible] noncomputable def rq (z:Str) (k:Int) (H:Hp) (Q:VK):Prop:=((k=0\/k=1)/\Q (.str (if k=1 then z else Str.empty)) H)\/(2<=k/\k<=1000/\z.length<=1000/\z.length≠0/\Q (.str ⟨(pi k.toNat z.cps).foldl (·++·) #[]⟩) H)
abbrev xJ (K:W.Frag):R2:=λx y H Q=>match x,y with
 | .int i,.int j=>nI i j/\Q (.int (i*j)) H
 | .ref a,.int k=>uw K a k H Q
 | .str z,.int k=>rq z k H Q
 |_,_=>False
abbrev wR:R2:=λx y H Q=>match x,y with
 | .int i,.int j=>(0<j/\j<1073741824)/\Q (.int (i / j)) H
 |_,_=>False
abbrev xa:R2:=λx y H Q=>match x,y with
 | .int i,.int j=>0<j/\Q (.int (i % j)) H
 |_,_=>False
abbrev xw:R2:=λx y H Q=>match x,y with
 | .int i,.int j=>uI i j/\Q (.int (i ^ j.toNat)) H
 |_,_=>False
abbrev x8 (K:W.Frag)(op:Operator):R2:=match op with
 | .Add=>wN K
 | .Sub=>vK
 | .Mult=>xJ K
 | .FloorDiv=>wR
 | .Mod=>xa
 | .Pow=>xw
 |_=>λ_ _ _ _=>False
section
variable {X:Cx}
def eY {n:Nat}(h:n<=1000000):n<=bn:=by rw[sizeLine_eq];omega
def jT (a:Array Nat):∀ (n:Nat) (b:Array Nat),((pi n a).foldl (·++·) b).size=b.size+n*a.size
 |0,b=>by simp
 |n+1,b=>by rw[replicate_succ,foldl_cons,jT a n,Array.size_append,Nat.succ_mul];omega
def tL {z:Str}{k:Int}{s:Shared}{U:St}{H:Hp}{u:Value}{Q:VK}(I:Inv X Y U H s)(rx:RelV (.str z) v)(ry:RelV (.int k) u)(h:rq z k H Q):wpAny (model X.prog X.w) X.A (binaryOp .Mult v u) (λv' s'=>∃ w H',Inv X Y U H' s'/\RelV w v'/\Q w H') X.xe s:=by
 obtain⟨t,rfl⟩:=rx;obtain⟨t',rfl⟩:=ry;unfold rq at h;rcases h with⟨rfl|rfl,q⟩|⟨h2,h3,h4,h5,q⟩
 .exact PySem.P.mul_str (by decide) (λh=>absurd (by decide) h) (λh=>absurd (by decide) h) ⟨by decide,.str Str.empty,H,I.tok _,⟨_,rfl⟩,q⟩
 .exact PySem.P.mul_str (by decide) (λ_ h=>by cases(show true=false from h)) (λ_ h=>by cases(show true=false from h)) ⟨.str z,H,I,⟨_,rfl⟩,q⟩
 .have hm:z.length*k.toNat<=1000*1000:=Nat.mul_le_mul h4 nofun;refine PySem.P.mul_str (by rw[Bool.or_eq_false_iff,decide_eq_false_iff_not,decide_eq_false_iff_not];omega) (λ_ _=>?_) (λ_ _=>?_) ?_
  .have:(1000:Int)<=(2 ^ 63-1) / k:=by rw[Int.le_ediv_iff_mul_le nofun];omega
   omega
  .exact PyProof.Rows.short24 nofun
  .rw[if_neg nofun,if_neg (by simp only[Bool.or_eq_true,beq_iff_eq];omega)];refine⟨?_,.str _,H,I.tok _,⟨_,rfl⟩,q⟩;have e:=jT z.cps k.toNat #[];show((pi k.toNat z.cps).foldl (·++·) #[]).size<=bn;rw[e,sizeLine_eq];have:k.toNat*z.cps.size=z.length*k.toNat:=Nat.mul_comm _ _;simp only[Array.size_empty]
   omega
def xo (op:Operator):bp X (binaryOp op) (x8 X.K op):=by
 intro Y s U H x y v u Q I rx ry h;cases op with
 |Add=>
  have h':wN X.K x y H Q:=h;unfold wN at h'
  split at h'
  .exact vP Y s U H _ _ v u Q I rx ry ⟨_,_,rfl,rfl,h'⟩
  .exact kK Y s U H _ _ v u Q I rx ry ⟨_,_,rfl,rfl,eY nofun,h'.2⟩
  .unfold tJ at h';rcases h' with⟨xs,ys,ha,hb,hz,q⟩|h'
   .exact w8 Y s U H _ _ v u Q I rx ry ⟨_,_,xs,ys,rfl,rfl,ha,hb,eY nofun,q⟩
   .exact h'.elim
  .exact h'.elim
 |Sub=>
  have h':vK x y H Q:=h;unfold vK at h'
  split at h'
  .exact xV Y s U H _ _ v u Q I rx ry ⟨_,_,rfl,rfl,h'⟩
  .exact h'.elim
 |Mult=>
  have h':xJ X.K x y H Q:=h;unfold xJ at h'
  split at h'
  .exact vY Y s U H _ _ v u Q I rx ry ⟨_,_,rfl,rfl,h'.1,h'.2⟩
  .rename_i k;unfold uw at h';rcases h' with⟨xs,ha,h1,h2,hz,q⟩|h'
   .refine wF Y s U H _ _ v u Q I rx ry ⟨_,k,xs,rfl,rfl,ha,by omega,by omega,eY ?_,q⟩;have:xs.length*k.toNat<=1000*1000:=Nat.mul_le_mul hz nofun
    omega
   .exact h'.elim
  .exact tL I rx ry h'
  .exact h'.elim
 |FloorDiv=>
  have h':wR x y H Q:=h;unfold wR at h'
  split at h'
  .exact uf Y s U H _ _ v u Q I rx ry ⟨_,_,rfl,rfl,h'.1,h'.2⟩
  .exact h'.elim
 |Mod=>
  have h':xa x y H Q:=h;unfold xa at h'
  split at h'
  .exact vW Y s U H _ _ v u Q I rx ry ⟨_,_,rfl,rfl,h'.1,h'.2⟩
  .exact h'.elim
 |Pow=>
  have h':xw x y H Q:=h;unfold xw at h'
  split at h'
  .exact xE Y s U H _ _ v u Q I rx ry ⟨_,_,rfl,rfl,h'.1,h'.2⟩
  .exact h'.elim
 |_=>exact(show False from h).elim
abbrev n8 (f:Int->Int->Bool):R2:=λx y H Q=>match x,y with
 | .int i,.int j=>Q (.bl (f i j)) H
 |_,_=>False
@[irreducible] noncomputable def j5 (K:W.Frag) (neg:Bool):R2:=λx y H Q=>match y with
 | .ref p=>(∃ xs,(aA K H p xs\/cV K H p xs)/\au x=true/\xs.all au=true/\Q (.bl (if neg then !rC x xs else rC x xs)) H)\/(∃ o,lA H p x o/\Q (.bl (if neg then !o.isSome else o.isSome)) H)\/False
 | .str j=>∃ i,x=.str i/\Q (.bl (if neg then !(!(Builtin.Str.occurrences j i 0 j.length 1).isEmpty) else !(Builtin.Str.occurrences j i 0 j.length 1).isEmpty)) H
 |_=>False
@[irreducible] noncomputable def vI (neg:Bool):R2:=λx y H Q=>match y with
 | .non=>Q (.bl (if neg then !decide (x=.non) else decide (x=.non))) H
 | .bl b=>False
 | .ref b=>False
 |_=>False
abbrev jy (K:W.Frag)(op:CmpOp):R2:=match op with
 | .Eq=>cU K false
 | .NotEq=>cU K true
 | .Lt=>n8 λi j=>decide (i<j)
 | .LtE=>n8 λi j=>decide (i<=j)
 | .Gt=>n8 λi j=>decide (j<i)
 | .GtE=>n8 λi j=>decide (j<=i)
 | .In=>j5 K false
 | .NotIn=>j5 K true
 | .Is=>vI false
 | .IsNot=>vI true
def iA {f:Int->Int->Bool}{op:CmpOp}(ho:bp X (compareOp op) (tT λi j=>.bl (f i j))):bp X (compareOp op) (n8 f):=by
 intro Y s U H x y v u Q I rx ry h;unfold n8 at h
 split at h
 .exact ho Y s U H _ _ v u Q I rx ry ⟨_,_,rfl,rfl,h⟩
 .exact h.elim
def xR (hu:X.A.units+200<cLine)(op:CmpOp):bp X (compareOp op) (jy X.K op):=by
 cases op with
 |Eq=>exact w4 hu
 |NotEq=>exact ym hu
 |Lt=>exact iA zH
 |LtE=>exact iA zj
 |Gt=>exact iA yE
 |GtE=>exact iA zB
 |In=>
  intro Y s U H x y v u Q I rx ry h;have h':j5 X.K false x y H Q:=h;unfold j5 at h'
  split at h'
  .rcases h' with⟨xs,hx,f1,f2,q⟩|⟨o,g,q⟩|z
   .exact nS Y s U H _ _ v u Q I rx ry ⟨_,xs,rfl,hx,f1,f2,q⟩
   .cases ry;exact AS nofun I g rx λs3 I3=>⟨.bl o.isSome,H,I3,rfl,q⟩
   .exact z.elim
  .obtain⟨i,rfl,q⟩:=h';exact nu Y s U H _ _ v u Q I rx ry ⟨_,_,rfl,rfl,q⟩
  .exact h'.elim
 |NotIn=>
  intro Y s U H x y v u Q I rx ry h;have h':j5 X.K true x y H Q:=h;unfold j5 at h'
  split at h'
  .rcases h' with⟨xs,hx,f1,f2,q⟩|⟨o,g,q⟩|z
   rotate_left 2
   .exact z.elim
   .exact iw Y s U H _ _ v u Q I rx ry ⟨_,xs,rfl,hx,f1,f2,q⟩
   .cases ry;exact tQ nofun I g rx λs3 I3=>⟨.bl (!o.isSome),H,I3,rfl,q⟩
  .obtain⟨i,rfl,q⟩:=h';exact iS Y s U H _ _ v u Q I rx ry ⟨_,_,rfl,rfl,q⟩
  .exact h'.elim
 |Is=>
  intro Y s U H x y v u Q I rx ry h;have h':vI false x y H Q:=h;unfold vI at h'
  split at h'
  .exact xN Y s U H _ _ v u Q I rx ry ⟨rfl,h'⟩
  .exact h'.elim
  .exact h'.elim
  .exact h'.elim
 |IsNot=>
  intro Y s U H x y v u Q I rx ry h;have h':vI true x y H Q:=h;unfold vI at h'
  split at h'
  .exact uy Y s U H _ _ v u Q I rx ry ⟨rfl,h'⟩
  .exact h'.elim
  .exact h'.elim
  .exact h'.elim
@[irreducible] noncomputable def lX (K:W.Frag):R2:=λx y H Q=>match x with
 | .ref p=>(∃ xs i v,y=.int i/\(aA K H p xs\/cV K H p xs)/\eP xs i=some v/\Q v H)\/∃ v,lA H p y (some v)/\Q v H
 | .str z=>∃ i c,y=.int i/\z.length<=100000/\eP z.cps.toList i=some c/\Q (.str ⟨#[c]⟩) H
 |_=>False
def kC (hu:X.A.units+200<cLine):yv X (lX X.K):=by
 intro value slice Y s U H x y v u Q I rx ry h hs;unfold lX at h
 split at h
 .rcases h with⟨xs,i,w,rfl,hx,ha,q⟩|⟨w,g,q⟩
  .rcases hx with hx|hx
   .exact tw value slice Y s U H _ _ v u Q I rx ry ⟨_,xs,i,w,rfl,rfl,hx,ha,q⟩ hs
   .exact wu value slice Y s U H _ _ v u Q I rx ry ⟨_,xs,i,w,rfl,rfl,hx,ha,q⟩ hs
  .cases rx;exact tail_any (kc I g) PySem.F.slot_dict_getitem.lookup (nR nofun I g ry λw' s3 I3 rw'=>⟨w,H,I3,rw',q⟩) hs
 .obtain⟨i,c,rfl,hz,ha,q⟩:=h;exact ya value slice Y s U H _ _ v u Q I rx ry ⟨_,i,c,rfl,rfl,eY nofun,ha,q⟩ hs
 .exact h.elim
@[irreducible] noncomputable def jW:nq:=λo i v H Q=>match o with
 | .ref p=>(∃ xs k j,i=.int k/\H p=some (.lst xs)/\tV xs.length k=some j/\Q (upd H p (.lst (xs.set j v))))\/∃ H4,za H p i v H4/\Q H4
 |_=>False
def mC (hu:X.A.units+200<cLine):sW X jW:=by
 intro Y s U H o i v ov iv u Q I ro ri rv h;unfold jW at h
 split at h
 .rcases h with⟨xs,k,j,rfl,hp,hj,q⟩|⟨H4,g,q⟩
  .exact set_list Y s U H _ _ v ov iv u Q I ro ri rv ⟨_,xs,k,j,rfl,rfl,hp,hj,q⟩
  .cases ro;exact nV nofun I g ri rv λs4 I4=>⟨H4,I4,q⟩
 .exact h.elim
@[irreducible] noncomputable def yx (K:W.Frag):V->Option Int->Option Int->Hp->VK->Prop:=λx lo hi H Q=>match x with
 | .ref a=>(∃ xs,aA K H a xs/\∀ p,H p=none->Q (.ref p) (upd H p (.lst (jR xs lo hi))))\/False
 | .str z=>False
 |_=>False
def xy:Ar X (yx X.K):=by
 intro Y s U H x v vl vu lo hi sl Q I rx hs pl pu h;unfold yx at h
 split at h
 .rcases h with⟨xs,hx,q⟩|h
  .exact tj Y s U H _ v vl vu lo hi sl Q I rx hs pl pu ⟨_,xs,rfl,hx,q⟩
  .exact h.elim
 .exact h.elim
 .exact h.elim
end
end L2
namespace L3
open PySem L2
set_option genSizeOf false
inductive Bf where
 |len|list|tuple|int|str|min|max|abs|all|any|dict|sum
 deriving DecidableEq
inductive Lm where
 |append|extend|insert|pop|clear|reverse|count
 deriving DecidableEq
inductive Sm where
 |join|split|starts
 deriving DecidableEq
inductive Cl where
 |own (c:Nat)|ty (n:String)
mutual
inductive Ex where
 |v (i:Nat)|int (i:Int)|bl (b:Bool)|non|str (x:Str)|gl (x:Str)
 |bin (op:Operator) (a b:Ex)|neg (a:Ex)|not (a:Ex)|and (a b:Ex)|or (a b:Ex)
 |cmp (op:CmpOp) (a b:Ex)|cmp2 (o1 o2:CmpOp) (a b c:Ex)|cmp3 (o1 o2 o3:CmpOp) (a b c d:Ex)
 |ife (c:Tx) (a b:Ex)|tup (es:dm)|lst (es:dm)|ix (a i:Ex)|sl (a:Ex) (lo hi:As)
 |fld (a:Ex) (f:Str)|call (f:Nat) (es:dm)|meth (a:Ex) (m:Str) (es:dm)|lm (m:Lm) (a:Ex) (es:dm)|make (c:Nat) (es:dm)|bini (es:dm)|cini (c:Nat) (es:dm)
 |bf (b:Bf) (es:dm)|sm (m:Sm) (a b:Ex)|isi (a:Ex) (c:Cl)|lc (elt:Ex) (sel:List Nat) (it:u0)|lci (elt:Ex) (c:Tx) (sel:List Nat) (it:u0)|lct (elt:Ex) (n:Nat) (sel:List Nat) (it:u0)|lcu (elt:Ex) (c:Tx) (n:Nat) (sel:List Nat) (it:u0)|dnew|up (a:Ex)|dzip (a b:Ex)|isiT (a:Ex) (cs:List Nat)|vals (tp:Bool) (a:Ex)|mk0 (c:Nat)|disp (ks:List Str) (es:dm)|lix (a b:Ex)|rev (a b:Ex)|dget (a k d:Ex)
inductive Tx where
 |not (a:Tx)|and (a b:Tx)|or (a b:Tx)|cmp (op:CmpOp) (a b:Ex)|cmp2 (o1 o2:CmpOp) (a b c:Ex)|val (e:Ex)
inductive dm where
 |nil|cons (e:Ex) (es:dm)
inductive As where
 |no|yes (e:Ex)
inductive u0 where
 |rng1 (a:Ex)|rng2 (a b:Ex)|rng3 (a b c:Ex)|enm (a:Ex)|enf (a:Ex)|seq (a:Ex)|zip (a b:Ex)|zip3 (a b c:Ex)
end
inductive Ap where
 |nm (i:Nat)|tp (is:List Nat)|nt (i:Nat) (is:List Nat)
mutual
inductive Sx where
 |asg (i:Nat) (e:Ex)|asgT (is:List Nat) (e:Ex)|par (is:List Nat) (es:dm)|sub (o i v:Ex)|fld (o:Ex) (f:Str) (v:Ex)
 |aug (i:Nat) (op:Operator) (e:Ex)|augS (o i:Ex) (op:Operator) (e:Ex)
 |ret (e:Ex)|retN|pass|brk|cont|expr (e:Ex)
 |ife (c:Tx) (a b:fV)|whl (c:Tx) (b:fV)|for (t:Ap) (it:u0) (b:fV)|rais (e:Ex)|tryx (b:fV) (hs:sq)
inductive fV where
 |nil|cons (s:Sx) (r:fV)
inductive sq where
 |nil|cons (c:Nat) (i:Nat) (b:fV) (hs:sq)
end
structure aE where
 ps:List Str
 N:List Str
 dfl:List V
 body:fV
/-- what of the text never changes. gfn,gcl:the global names of defs and classes,by number;gbl:built-in names that are not shadowed;gbi:classes of exceptions whose __init__ is the built-in one;na:class and name that no class of it has;
  me:class,name,def;ini:class,its __init__;oc,xc:plain classes,classes of exceptions;sub,subT:isinstance -/
structure Tab where
 fns:List aE
 gfn:List (Str×Nat)
 gcl:List (Str×Nat)
 gbl:List Str
 gbi:List Str
 na:List (Nat×Str)
 me:List ((Nat×Str)×Nat)
 ini:List (Nat×Nat)
 ini0:List Nat
 inip:List Nat
 oc:List Nat
 xc:List Nat
 sub:List ((Nat×Nat)×Bool)
 subT:List ((Nat×String)×Bool)
 subB:List ((String×String)×Bool)
 subO:List ((String×Nat)×Bool)
 cin:List (Nat×Nat):=[]
structure Rt where
 K:W.Frag
 fad:Nat->Addr
 cad:Nat->Addr
 gl:Str->Option V
structure Gx where
 T:Tab
 R:Rt
 Ψ:Nat->Sp
 cm:Bool
@[irreducible] noncomputable def fj (c:Bool) (A B:Prop):Prop:=match c with
 |true=>A
 |false=>B
def cp (c:Bool)(A B:Prop):fj c A B=(if c=true then A else B):=by unfold fj;cases c<;>rfl
abbrev vS (K:W.Frag)(x:V)(H:Hp)(Q:Bool->Hp->Prop):Prop:=match x with
 | .bl k=>Q k H
 |y=>∃ k,uK K y H k/\Q k H
abbrev tyName:V->Hp->Option String
 | .non,_=>some "NoneType"
 | .bl _,_=>some "bool"
 | .int _,_=>some "int"
 | .str _,_=>some "str"
 | .ref a,H=>match H a with
  |some (.lst _)=>some "list"
  |some (.tup _)=>some "tuple"
  |some (.dK _)=>some "dict"
  |some (.aP _ (.dK _))=>some "dict"
  |_=>none
 |_,_=>none
@[irreducible] noncomputable def ja (G:Gx) (b:Bf) (vs:List V) (H:Hp) (Q:VK):Prop:=match b with
 | .len=>∃ x n,vs=[x]/\yP G.R.K x H n/\Q (.int n) H
 | .list=>(∃ p ys,vs=[.ref p]/\(aA G.R.K H p ys\/cV G.R.K H p ys)/\∀ l,H l=none->Q (.ref l) (upd H l (.lst ys)))\/(G.cm=true/\∃ p kvs,vs=[.ref p]/\Rd H p (.dK kvs)/\∀ l,H l=none->Q (.ref l) (upd H l (.lst (kvs.map (λkv=>kV kv.1)))))
 | .tuple=>False
 | .int=>(∃ i,vs=[.int i]/\Q (.int i) H)\/∃ k,vs=[.bl k]/\Q (.int (if k then 1 else 0)) H
 | .str=>False
 | .min=>G.cm=true/\((∃ i j,vs=[.int i,.int j]/\Q (.int (if j<i then j else i)) H)\/False)
 | .max=>False
 | .abs=>False
 | .all=>G.cm=true/\∃ p,∃ bs:List Bool,vs=[.ref p]/\aA G.R.K H p (bs.map V.bl)/\Q (.bl (bs.all id)) H
 | .any=>False
 | .dict=>False
 | .sum=>G.cm=true/\∃ p,∃ ns:List Int,vs=[.ref p]/\aA G.R.K H p (ns.map V.int)/\Q (.int ns.sum) H
@[irreducible] noncomputable def zl (m:Lm) (p:Addr) (xs:List V) (vs:List V) (H:Hp) (Q:VK):Prop:=match m with
 | .append=>∃ y,vs=[y]/\xs.length<=10000/\Q .non (upd H p (.lst (xs++[y])))
 | .extend=>False
 | .insert=>False
 | .pop=>False
 | .clear=>False
 | .reverse=>False
 | .count=>False
abbrev dflt (G:Gx)(f n:Nat):List V:=match G.T.fns[f]? with
 |some d=>d.dfl.drop (n+d.dfl.length-d.ps.length)
 |none=>[]
abbrev dm.len:dm->Nat
 | .nil=>0
 | .cons _ es=>es.len+1
abbrev mY (G:Gx)(H:Hp)(a:Addr)(i:Nat):Prop:=(G.T.oc.contains i=true/\∃ dx fs,H a=some (.ins (G.R.cad i) dx fs))\/(G.T.xc.contains i=true/\∃ dx fs fr,H a=some (.exc (G.R.cad i) dx fs fr))
@[irreducible] noncomputable def gz (G:Gx) (c:Cl) (x:V) (H:Hp) (Q:VK):Prop:=match c with
 | .ty n=>(∃ t b,tyName x H=some t/\G.T.subB.lookup (t,n)=some b/\Q (.bl b) H)\/∃ a i b,x=.ref a/\mY G H a i/\G.T.subT.lookup (i,n)=some b/\Q (.bl b) H
 | .own j=>(∃ t b,tyName x H=some t/\G.T.subO.lookup (t,j)=some b/\Q (.bl b) H)\/∃ a i b,x=.ref a/\mY G H a i/\G.T.sub.lookup (i,j)=some b/\Q (.bl b) H
abbrev anyS (G:Gx)(i:Nat):List Nat->Option Bool
 | []=>some false
 |c::r=>match G.T.sub.lookup (i,c) with
  |some true=>some true
  |some false=>anyS G i r
  |none=>none
abbrev tS (G:Gx)(t:String):List Nat->Option Bool
 | []=>some false
 |c::r=>match G.T.subO.lookup (t,c) with
  |some true=>some true
  |some false=>tS G t r
  |none=>none
@[irreducible] noncomputable def kg (G:Gx) (cs:List Nat) (x:V) (H:Hp) (Q:VK):Prop:=(∃ t b,tyName x H=some t/\tS G t cs=some b/\Q (.bl b) H)\/∃ a i b,x=.ref a/\mY G H a i/\anyS G i cs=some b/\Q (.bl b) H
@[irreducible] noncomputable def sk (G:Gx) (f:Str) (x:V) (H:Hp) (Q:VK):Prop:=∃ a i fs v,x=.ref a/\((G.T.oc.contains i=true/\∃ dx,H a=some (.ins (G.R.cad i) dx fs))\/(G.T.xc.contains i=true/\∃ dx fr,H a=some (.exc (G.R.cad i) (some dx) fs fr)))/\
 G.T.na.contains (i,f)=true/\fs.lookup f=some v/\Q v H
@[irreducible] noncomputable def yM (G:Gx) (f:Str) (x y:V) (H:Hp) (Q:Hp->Prop):Prop:=∃ a i,x=.ref a/\G.T.na.contains (i,f)=true/\
 ((∃ dx fs,G.T.oc.contains i=true/\H a=some (.ins (G.R.cad i) dx fs)/\fs.length<1000/\Q (upd H a (.ins (G.R.cad i) dx (bB f y fs))))\/
  (∃ d fs fr,G.T.xc.contains i=true/\H a=some (.exc (G.R.cad i) (some d) fs fr)/\fs.length<1000/\Q (upd H a (.exc (G.R.cad i) (some d) (bB f y fs) fr)))\/
  (∃ fr,G.T.xc.contains i=true/\H a=some (.exc (G.R.cad i) none [] fr)/\∀ d,H d=none->Q (upd (upd H d (.own a)) a (.exc (G.R.cad i) (some d) [(f,y)] fr))))
abbrev Aw (op:Operator)(x y:V)(H:Hp)(Q:VK):Prop:=match op,x,y with
 | .Add,.int i,.int j=>Q (.int (i+j)) H
 | .Sub,.int i,.int j=>Q (.int (i-j)) H
 |_,_,_=>False
@[irreducible] noncomputable def pY (K:W.Frag) (x y:V) (H:Hp) (Q:VK):Prop:=match x,y with
 | .ref p,.int i=>∃ xs v,aA K H p xs/\0<=i/\xs[i.toNat]? =some v/\Q v H
 |_,_=>False
abbrev uF (U:St):List Nat->List V->St
 |i::is,x::xs=>uF (U.set i (some x)) is xs
 |_,_=>U
@[irreducible] noncomputable def Ai (K:W.Frag) (m:Sm) (z:Str) (y:V) (H:Hp) (Q:VK):Prop:=match m with
 | .join=>rJoin K (.str z) [y] H Q
 | .split=>False
 | .starts=>False
@[irreducible] noncomputable def rm (xs:List V) (H:Hp) (Q:VK):Prop:=xs.length<=10000/\∀ p,H p=none->Q (.ref p) (upd H p (.lst xs))
@[irreducible] noncomputable def om (xs:List V) (H:Hp) (Q:VK):Prop:=xs.length<=10000/\∀ p,H p=none->Q (.ref p) (upd H p (.tup xs))
@[irreducible] noncomputable def newD (H:Hp) (Q:VK):Prop:=∀ p,H p=none->Q (.ref p) (upd H p (.dK []))
@[irreducible] noncomputable def iO (K:W.Frag) (p:Addr) (H:Hp) (R:It->Hp->Prop):Prop:=((∃ xs,aA K H p xs)/\R (yp K p) H)\/((∃ xs,cV K H p xs)/\R (AW K p) H)\/(∃ kvs,H p=some (.dK kvs)/\∀ o,R (vn p o kvs) (upd H p (.aP o (.dK kvs))))\/∃ o kvs,H p=some (.aP o (.dK kvs))/\R (vn p o kvs) H
@[irreducible] noncomputable def pU (C:Addr) (H:Hp) (Q:VK):Prop:=∀ x dx,H x=none->H dx=none->dx≠x->Q (.ref x) (upd (upd H dx (.own x)) x (.ins C dx []))
@[irreducible] noncomputable def qM (K:W.Frag) (p:Addr) (y:V) (H:Hp) (Q:VK):Prop:=∃ xs,∃ (e:V->Bool) (j:Nat) (x:V),H p=some (.lst xs)/\xs.length<=10000/\(∀ x ∈ xs,∃ n,n<=100/\jd K H n x y (e x))/\xs[j]? =some x/\e x=true/\(∀ (m:Nat) x,m<j->xs[m]? =some x->e x=false)/\Q (.int (j:Int)) H
@[irreducible] noncomputable def pF (te:TE) (J:It) (σ₀:St) (H1:Hp) (Q:VK):Prop:=LC te J σ₀ H1 Q
def qr: @pF= @LC:=by
 funext te J U H Q
 unfold pF
 rfl
@[irreducible] noncomputable def wY (tc:TT) (te:TE) (J:It) (σ₀:St) (H1:Hp) (Q:VK):Prop:=LCg (dn 0) tc te J σ₀ H1 Q
def rf: @wY= @LCg (dn 0):=by
 funext tc te J U H Q
 unfold wY
 rfl
abbrev gl (is:List Nat):sM:=λvs U H Q=>vs.length=is.length/\Q (uF U is vs) H
@[irreducible] noncomputable def LCt (K:W.Frag) (n:Nat) (te:TE) (J:It) (σ₀:St) (H1:Hp) (Q:VK):Prop:=LCg (t4 K n (gl (List.range n))) yes te J σ₀ H1 Q
def xG {K:W.Frag}{n:Nat}:LCt K n=LCg (t4 K n (gl (List.range n))) yes:=by
 funext te J U H Q
 unfold LCt
 rfl
mutual
noncomputable def wE (G:Gx):Ex->St->Hp->VK->XK->Prop
 | .v i,U,H,Q,_=>match U[i]? with
  |some (some x)=>Q x H
  |_=>False
 | .int i,_,H,Q,_=>Q (.int i) H
 | .bl b,_,H,Q,_=>Q (.bl b) H
 | .non,_,H,Q,_=>Q .non H
 | .str x,_,H,Q,_=>Q (.str x) H
 | .gl x,_,H,Q,_=>match G.R.gl x with
  |some v=>Q v H
  |none=>False
 | .bin op a b,U,H,Q,E=>wE G a U H (λx H1=>wE G b U H1 (λy H2=>x8 G.R.K op x y H2 Q) E) E
 | .neg a,U,H,Q,E=>wE G a U H (λx H1=>match x with| .int i=>Q (.int (-i)) H1|_=>False) E
 | .not a,U,H,Q,E=>wE G a U H (λx H1=>match x with| .bl c=>Q (.bl (!c)) H1|_=>False) E
 | .and a b,U,H,Q,E=>wE G a U H (λx H1=>match x with| .bl c=>fj c (wE G b U H1 Q E) (Q (.bl false) H1)|_=>False) E
 | .or a b,U,H,Q,E=>wE G a U H (λx H1=>match x with| .bl c=>fj c (Q (.bl true) H1) (wE G b U H1 Q E)|_=>False) E
 | .cmp op a b,U,H,Q,E=>wE G a U H (λx H1=>wE G b U H1 (λy H2=>jy G.R.K op x y H2 Q) E) E
 | .cmp2 o1 o2 a b c,U,H,Q,E=>wE G a U H (λx H1=>wE G b U H1 (λy H2=>jy G.R.K o1 x y H2 λz H3=>match z with| .bl k=>fj k (wE G c U H3 (λw H4=>jy G.R.K o2 y w H4 Q) E) (Q (.bl false) H3)|_=>False) E) E
 | .cmp3 o1 o2 o3 a b c d,U,H,Q,E=>False
 | .ife c a b,U,H,Q,E=>wT G c U H (λk H1=>fj k (wE G a U H1 Q E) (wE G b U H1 Q E)) E
 | .tup es,U,H,Q,E=>wEs G es U H (λxs H1=>om xs H1 Q) E
 | .lst es,U,H,Q,E=>wEs G es U H (λxs H1=>rm xs H1 Q) E
 | .ix a i,U,H,Q,E=>wE G a U H (λx H1=>wE G i U H1 (λy H2=>lX G.R.K x y H2 Q) E) E
 | .sl a lo hi,U,H,Q,E=>wE G a U H (λx H1=>wO G lo U H1 (λl H2=>wO G hi U H2 (λu H3=>yx G.R.K x l u H3 Q) E) E) E
 | .fld a f,U,H,Q,E=>wE G a U H (λx H1=>sk G f x H1 Q) E
 | .call f es,U,H,Q,E=>G.cm=true/\wEs G es U H (λvs H1=>G.Ψ f (vs++dflt G f es.len) H1 Q E) E
 | .meth a m es,U,H,Q,E=>G.cm=true/\wE G a U H (λx H1=>∃ p i dx fs f,x=.ref p/\H1 p=some (.ins (G.R.cad i) dx fs)/\fs.lookup m=none/\G.T.me.lookup (i,m)=some f/\
   wEs G es U H1 (λvs H2=>G.Ψ f (x::(vs++dflt G f (es.len+1))) H2 Q E) E) E
 | .lm m a es,U,H,Q,E=>wE G a U H (λx H1=>∃ p xs0,x=.ref p/\H1 p=some (.lst xs0)/\wEs G es U H1 (λvs H2=>∃ xs,H2 p=some (.lst xs)/\zl m p xs vs H2 Q) E) E
 | .make c es,U,H,Q,E=>G.cm=true/\match G.T.ini.lookup c with
  |none=>G.T.ini0.contains c=true/\wEs G es U H (λvs H1=>vs.length=1/\∀ x,H1 x=none->Q (.ref x) (upd H1 x (.exc (G.R.cad c) none [] true))) E
  |some f=>if G.T.xc.contains c=true then wEs G es U H (λvs H1=>vs.length<=1000/\∀ x,H1 x=none->G.Ψ f (.ref x::(vs++dflt G f (es.len+1))) (upd H1 x (.exc (G.R.cad c) none [] true)) (λv H2=>v=.non/\Q (.ref x) H2) E) E
   else wEs G es U H (λvs H1=>∀ x dx,H1 x=none->H1 dx=none->dx≠x->G.Ψ f (.ref x::(vs++dflt G f (es.len+1))) (upd (upd H1 dx (.own x)) x (.ins (G.R.cad c) dx [])) (λv H2=>v=.non/\Q (.ref x) H2) E) E
 | .bini es,U,H,Q,E=>wEs G es U H (λvs H1=>∃ a i dx fs fr v,vs=[.ref a,v]/\H1 a=some (.exc (G.R.cad i) dx fs fr)/\G.T.xc.contains i=true/\Q .non H1) E
 | .cini c es,U,H,Q,E=>False
 | .bf b es,U,H,Q,E=>wEs G es U H (λvs H1=>ja G b vs H1 Q) E
 | .isi a c,U,H,Q,E=>wE G a U H (λx H1=>gz G c x H1 Q) E
 | .lc elt sel it,U,H,Q,E=>G.cm=true/\wI G it U H (λJ H1=>pF (λσ' H' Q'=>wE G elt σ' H' Q' (λ_ _=>False)) J (none::dA U sel) H1 Q) E
 | .lci elt c sel it,U,H,Q,E=>G.cm=true/\wI G it U H (λJ H1=>wY (λσ' H' Q'=>wT G c σ' H' Q' (λ_ _=>False)) (λσ' H' Q'=>wE G elt σ' H' Q' (λ_ _=>False)) J (none::dA U sel) H1 Q) E
 | .lct elt n sel it,U,H,Q,E=>False
 | .lcu elt c n sel it,U,H,Q,E=>False
 | .dnew,_,H,Q,_=>newD H Q
 | .sm m a b,U,H,Q,E=>wE G a U H (λx H1=>∃ z,x=.str z/\wE G b U H1 (λy H2=>Ai G.R.K m z y H2 Q) E) E
 | .up a,U,H,Q,E=>False
 | .isiT a cs,U,H,Q,E=>wE G a U H (λx H1=>∀ p,H1 p=none->kg G cs x (upd H1 p (.tup (cs.map λc=>.ref (G.R.cad c)))) Q) E
 | .mk0 c,_,H,Q,_=>pU (G.R.cad c) H Q
 | .disp ks es,U,H,Q,E=>False
 | .dget a k d,U,H,Q,E=>False
 | .rev a b,U,H,Q,E=>False
 | .lix a b,U,H,Q,E=>wE G a U H (λx H1=>∃ p xs0,x=.ref p/\H1 p=some (.lst xs0)/\wE G b U H1 (λy H2=>qM G.R.K p y H2 Q) E) E
 | .vals tp a,U,H,Q,E=>False
 | .dzip a b,U,H,Q,E=>False
noncomputable def wT (G:Gx):Tx->St->Hp->(Bool->Hp->Prop)->XK->Prop
 | .not a,U,H,Q,E=>wT G a U H (λc H1=>Q (!c) H1) E
 | .and a b,U,H,Q,E=>wT G a U H (λc H1=>fj c (wT G b U H1 Q E) (Q false H1)) E
 | .or a b,U,H,Q,E=>wT G a U H (λc H1=>fj c (Q true H1) (wT G b U H1 Q E)) E
 | .cmp op a b,U,H,Q,E=>wE G a U H (λx H1=>wE G b U H1 (λy H2=>jy G.R.K op x y H2 λz H3=>match z with| .bl k=>Q k H3|_=>False) E) E
 | .cmp2 o1 o2 a b c,U,H,Q,E=>wE G a U H (λx H1=>wE G b U H1 (λy H2=>jy G.R.K o1 x y H2 λz H3=>match z with| .bl k=>fj k (wE G c U H3 (λw H4=>jy G.R.K o2 y w H4 λz H5=>match z with| .bl k=>Q k H5|_=>False) E) (Q false H3)|_=>False) E) E
 | .val e,U,H,Q,E=>wE G e U H (λx H1=>vS G.R.K x H1 Q) E
noncomputable def wEs (G:Gx):dm->St->Hp->(List V->Hp->Prop)->XK->Prop
 | .nil,_,H,Q,_=>Q [] H
 | .cons e es,U,H,Q,E=>wE G e U H (λx H1=>wEs G es U H1 (λxs H2=>Q (x::xs) H2) E) E
noncomputable def wO (G:Gx):As->St->Hp->(Option Int->Hp->Prop)->XK->Prop
 | .no,_,H,Q,_=>Q none H
 | .yes e,U,H,Q,E=>wE G e U H (λx H1=>match x with| .int i=>Q (some i) H1|_=>False) E
noncomputable def wI (G:Gx):u0->St->Hp->(It->Hp->Prop)->XK->Prop
 | .rng1 a,U,H,R,E=>wE G a U H (λx H1=>match x with| .int j=>-(2 ^ 62)<=j/\j<2 ^ 62/\R (yu 0 j.toNat) H1|_=>False) E
 | .rng2 a b,U,H,R,E=>False
 | .rng3 a b c,U,H,R,E=>False
 | .enm a,U,H,R,E=>False
 | .enf a,U,H,R,E=>False
 | .seq a,U,H,R,E=>wE G a U H (λx H1=>match x with| .ref p=>iO G.R.K p H1 R| .str z=>R (vh z) H1|_=>False) E
 | .zip a b,U,H,R,E=>False
 | .zip3 a b c,U,H,R,E=>False
end
abbrev Br (D:Ends)(f:St->Hp->Prop):Ends:={ D with nx:=f }
abbrev zx (D:Ends)(N:St->Hp->Prop):Ends:={ D with nx:=N,ct:=N,bk:=D.nx }
abbrev Cd (D:Ends)(i:Nat):Ends:={ nx:=λσ' H'=>D.nx (σ'.set i none) H',rt:=D.rt,bk:=λσ' H'=>D.bk (σ'.set i none) H',ct:=λσ' H'=>D.ct (σ'.set i none) H' }
abbrev wG (U:St)(t:Ap)(K:W.Frag)(x:V)(H:Hp)(Q:St->Prop):Prop:=match t with
 | .nm i=>Q (U.set i (some x))
 | .tp is=>∃ a xs,x=.ref a/\(cV K H a xs\/aA K H a xs)/\xs.length=is.length/\Q (uF U is xs)
 | .nt i is=>∃ a y b ys,x=.ref a/\cV K H a [y,.ref b]/\cV K H b ys/\ys.length=is.length/\Q (uF (U.set i (some y)) is ys)
@[irreducible] noncomputable def kj (J:It) (D:Ends) (F:(St->Hp->Prop)->V->St->Hp->Prop) (U:St) (H1:Hp):Prop:=∃ W:Nat->Nat->St->Hp->Prop,(∃ m,W 0 m U H1)/\∀ i m U H,W i m U H->
 (J.stop i H/\D.nx U H)\/(J.go i H/\∃ N:St->Hp->Prop,(∀ σ' H',N σ' H'->∃ m',m'<m/\W (i+1) m' σ' H')/\∀ x H',J.yld i H x H'->F N x U H')
mutual
noncomputable def wS:Sx->Gx->Ends->(St->XK)->St->Hp->Prop
 | .asg i e,G,D,E,U,H=>wE G e U H (λx H1=>D.nx (U.set i (some x)) H1) (E U)
 | .asgT is e,G,D,E,U,H=>False
 | .par is es,G,D,E,U,H=>False
 | .sub o i v,G,D,E,U,H=>wE G v U H (λy H1=>wE G o U H1 (λov H2=>wE G i U H2 (λiv H3=>jW ov iv y H3 (λH4=>D.nx U H4)) (E U)) (E U)) (E U)
 | .fld o f v,G,D,E,U,H=>wE G v U H (λy H1=>wE G o U H1 (λx H2=>yM G f x y H2 (λH3=>D.nx U H3)) (E U)) (E U)
 | .aug i op e,G,D,E,U,H=>(match U[i]? with|some (some x)=>wE G e U H (λy H1=>Aw op x y H1 λz H2=>D.nx (U.set i (some z)) H2) (E U)|_=>False)
 | .augS o i op e,G,D,E,U,H=>wE G o U H (λov H1=>wE G i U H1 (λiv H2=>pY G.R.K ov iv H2 (λx H3=>wE G e U H3 (λy H4=>Aw op x y H4 (λz H5=>jW ov iv z H5 (λH6=>D.nx U H6))) (E U))) (E U)) (E U)
 | .ret e,G,D,E,U,H=>wE G e U H D.rt (E U)
 | .retN,_,D,_,_,H=>False
 | .pass,_,D,_,U,H=>False
 | .brk,_,D,_,U,H=>False
 | .cont,_,D,_,U,H=>False
 | .expr e,G,D,E,U,H=>wE G e U H (λ_ H1=>D.nx U H1) (E U)
 | .ife c a b,G,D,E,U,H=>wT G c U H (λk H1=>fj k (wB a G D E U H1) (wB b G D E U H1)) (E U)
 | .whl c b,G,D,E,U,H=>False
 | .for t it b,G,D,E,U,H=>G.cm=true/\wI G it U H (λJ H1=>kj J D (λN x U H'=>wG U t G.R.K x H' λσ2=>wB b G (zx D N) E σ2 H') U H1) (E U)
 | .rais e,G,_,E,U,H=>G.cm=true/\wE G e U H (λv H1=>∃ a i dx fs,v=.ref a/\H1 a=some (.exc (G.R.cad i) dx fs true)/\G.T.xc.contains i=true/\E U a (upd H1 a (.exc (G.R.cad i) dx fs false))) (E U)
 | .tryx b hs,G,D,_,U,H=>False
noncomputable def wB:fV->Gx->Ends->(St->XK)->St->Hp->Prop
 | .nil,_,D,_,U,H=>D.nx U H
 | .cons s r,G,D,E,U,H=>wS s G (Br D λσ1 H1=>wB r G D E σ1 H1) E U H
noncomputable def wH:sq->Gx->Ends->St->Addr->Hp->Prop
 | .nil,_,_,_,_,_=>False
 | .cons c i b hs,G,D,U,e,H=>∃ j dx fs k,H e=some (.exc (G.R.cad j) dx fs false)/\G.T.xc.contains j=true/\G.T.sub.lookup (j,c)=some k/\
   fj k (wB b { G with cm:=false } (Cd D i) (λ_ _ _=>False) (U.set i (some (.ref e))) H)
    (wH hs G D U e H)
end
end L3
namespace L3
open PySem PySem.Spec L2 PyProof.Rows
structure Sn where
 T:Tab
 sc:Scope
 N:List Str
abbrev Sn.lj (S:Sn)(x:Str):Bool:=decide (S.sc.names.lookup x=some .globalImplicit)&& !(x ==("__debug__":Str))
abbrev Sn.vT (S:Sn)(x:Str):Bool:=(decide (S.sc.names.lookup x=some .local)||decide (S.sc.names.lookup x=some .cell)||decide (S.sc.names.lookup x=some .free))&& !(x ==("__debug__":Str))&& !(x ==("__classdict__":Str))
abbrev Sn.loc (S:Sn)(i:Nat)(x:Str):Bool:=decide (S.N[i]? =some x)&&(decide (S.sc.names.lookup x=some .local)||decide (S.sc.names.lookup x=some .cell))
abbrev lF:Expr->Bool
 | .ListComp .. | .SetComp .. | .DictComp ..=>false
 |_=>true
abbrev bF:Expr->Bool
 | .Set ..=>false
 |_=>true
abbrev cQ:Expr->Bool
 | .Slice ..=>false
 |_=>true
abbrev bS:Expr->Bool
 | .Call (.Name _ _) [] [] _=>false
 |_=>true
abbrev plainT:Expr->Bool
 | .UnaryOp .Not _ _| .BoolOp .. | .IfExp .. | .Compare ..=>false
 |_=>true
abbrev qX:Bf->String
 | .len=>"len"| .list=>"list"| .tuple=>"tuple"| .int=>"int"| .str=>"str"| .min=>"min"| .max=>"max"| .abs=>"abs"| .all=>"all"| .any=>"any"| .dict=>"dict"| .sum=>"sum"
abbrev pS:Lm->String
 | .append=>"append"| .extend=>"extend"| .insert=>"insert"| .pop=>"pop"| .clear=>"clear"| .reverse=>"reverse"| .count=>"count"
abbrev qh:Sm->String
 | .join=>"join"| .split=>"split"| .starts=>"startswith"
abbrev fv:List String:=["int","bool","str","list","tuple","dict","ValueError"]
abbrev sr (S:Sn):Cl->Expr->Bool
 | .own c,.Name x _=>S.lj x&&decide (S.T.gcl.lookup x=some c)
 | .ty n,.Name x _=>S.lj x&&decide (x=(n:Str))&&S.T.gbl.contains x&&fv.contains n
 |_,_=>false
abbrev mQ (S:Sn):List Nat->List Expr->Bool
 | [],[]=>true
 |c::cs,.Name x _::es=>S.lj x&&decide (S.T.gcl.lookup x=some c)&&mQ S cs es
 |_,_=>false
abbrev bX (outer inner:Scope):Scope:=
 { inner with names:=inner.names.map λ(n,k)=>if(k ==.free&&outer.kind ==.function&&outer.names.lookup n ==some .cell) then(n,.cell) else(n,k) }
abbrev dc (S:Sn)(scope:Scope)(xs:List Str)(sel:List Nat):Bool:=
 decide (scope.kind=.function)&&decide (S.sc.kind=.function)&&scope.names.all (λy=>y.2 != .cell&&(y.2 != .local||decide (scope.names.lookup y.1=some .local))&&(y.2 != .free||(decide (S.sc.names.lookup y.1=some .cell))))&&xs.all (λx=>decide (scope.names.lookup x=some .local))&&
 sel.all (λi=>match S.N[i]? with|some y=>decide (S.sc.names.lookup y=some .cell)&&decide ((bX S.sc scope).names.lookup y=some .cell)|none=>false)&&decide ((xs++sel.filterMap λi=>S.N[i]?).Nodup)
abbrev yO:List Expr->List Str
 | .Name x _::r=>x::yO r
 |_=>[]
abbrev se (S:Sn):List Nat->List Expr->Bool
 | [],[]=>true
 |i::is,.Name x _::r=>decide (S.N[i]? =some x)&&decide (S.sc.names.lookup x=some .local)&&se S is r
 |_,_=>false
abbrev nU:List Str->List (Option Expr)->Bool
 | [],[]=>true
 |k::ks,some (.Constant (.str x) _ _)::r=>decide (k=x)&&nU ks r
 |_,_=>false
mutual
noncomputable def mE (S:Sn):Ex->Expr->Bool
 | .v i,e=>match e with| .Name x _=>decide (S.N[i]? =some x)&&S.vT x|_=>false
 | .int i,e=>match e with| .Constant y1 _ _=>(match y1 with| .int j=>decide (i=j)|_=>false)|_=>false
 | .bl i,e=>match e with| .Constant y1 _ _=>(match y1 with| .bool j=>decide (i=j)|_=>false)|_=>false
 | .non,e=>match e with| .Constant y1 _ _=>(match y1 with| .none=>true|_=>false)|_=>false
 | .str i,e=>match e with| .Constant y1 _ _=>(match y1 with| .str j=>decide (i=j)|_=>false)|_=>false
 | .gl x,e=>match e with| .Name y _=>decide (x=y)&&S.lj y|_=>false
 | .bin op a b,e=>match e with| .BinOp a' op' b' _=>decide (op=op')&&mE S a a'&&mE S b b'|_=>false
 | .neg a,e=>match e with| .UnaryOp y1 a' _=>(match y1 with| .USub=>mE S a a'|_=>false)|_=>false
 | .not a,e=>match e with| .UnaryOp y1 a' _=>(match y1 with| .Not=>mE S a a'|_=>false)|_=>false
 | .and a b,e=>match e with| .BoolOp y1 y2 p=>(match y1 with| .And=>(match y2 with|a'::b'::r=>mE S a a'&&mE S b (match r with| []=>b'|_=>.BoolOp .And (b'::r) p)|_=>false)|_=>false)|_=>false
 | .or a b,e=>match e with| .BoolOp y1 y2 p=>(match y1 with| .Or=>(match y2 with|a'::b'::r=>mE S a a'&&mE S b (match r with| []=>b'|_=>.BoolOp .Or (b'::r) p)|_=>false)|_=>false)|_=>false
 | .cmp op a b,e=>match e with| .Compare a' y1 y2 _=>(match y1 with| [op']=>(match y2 with| [b']=>decide (op=op')&&mE S a a'&&mE S b b'&&bF b'|_=>false)|_=>false)|_=>false
 | .cmp2 o1 o2 a b c,e=>match e with| .Compare a' y1 y2 _=>(match y1 with| [p1,p2]=>(match y2 with| [b',c']=>decide (o1=p1)&&decide (o2=p2)&&mE S a a'&&mE S b b'&&mE S c c'&&bF c'|_=>false)|_=>false)|_=>false
 | .cmp3 o1 o2 o3 a b c d,_=>false
 | .ife c a b,e=>match e with| .IfExp c' a' b' _=>mT S c c'&&mE S a a'&&mE S b b'|_=>false
 | .tup es,e=>match e with| .Tuple es' _ _=>gp S es es'|_=>false
 | .lst es,e=>match e with| .List es' _=>gp S es es'|_=>false
 | .ix a i,e=>match e with| .Subscript a' i' _=>mE S a a'&&mE S i i'&&cQ i'|_=>false
 | .sl a lo hi,e=>match e with| .Subscript a' y1 _=>(match y1 with| .Slice lo' hi' y2 _=>(match y2 with|none=>mE S a a'&&mO S lo lo'&&mO S hi hi'|_=>false)|_=>false)|_=>false
 | .fld a f,e=>match e with| .Attribute a' f' _=>mE S a a'&&decide (f=f')&&bS a'|_=>false
 | .call f es,e=>match e with| .Call y1 es' y2 _=>(match y1 with| .Name x _=>(match y2 with| []=>S.lj x&&decide (S.T.gfn.lookup x=some f)&&gp S es es'|_=>false)|_=>false)|_=>false
 | .meth a m es,e=>match e with| .Call y1 es' y2 q=>(match y1 with| .Attribute a' m' p=>(match y2 with| []=>mE S a a'&&decide (m=m')&&gp S es es'&&bS a'&&(p.endLine ==q.line)&&decide (es.len<20)|_=>false)|_=>false)|_=>false
 | .dget a k d,_=>false
 | .rev a b,_=>false
 | .lix a b,e=>match e with| .Call y1 es' y2 q=>(match y1 with| .Attribute a' m' p=>(match y2 with| []=>(match es' with| [b']=>mE S a a'&&decide (m'=("index":Str))&&mE S b b'&&notStar b'&&bS a'&&(p.endLine ==q.line)|_=>false)|_=>false)|_=>false)|_=>false
 | .lm m a es,e=>match e with| .Call y1 es' y2 q=>(match y1 with| .Attribute a' m' p=>(match y2 with| []=>mE S a a'&&decide (m'=(pS m:Str))&&gp S es es'&&bS a'&&(p.endLine ==q.line)&&decide (es.len<20)|_=>false)|_=>false)|_=>false
 | .make c es,e=>match e with| .Call y1 es' y2 _=>(match y1 with| .Name x _=>(match y2 with| []=>S.lj x&&decide (S.T.gcl.lookup x=some c)&&gp S es es'|_=>false)|_=>false)|_=>false
 | .bini es,e=>match e with| .Call y1 es' y2 q=>(match y1 with| .Attribute y3 m p=>(match y3 with| .Name x _=>(match y2 with| []=>S.lj x&&decide (m=("__init__":Str))&&S.T.gbi.contains x&&gp S es es'&&decide (es.len=2)&&(p.endLine ==q.line)|_=>false)|_=>false)|_=>false)|_=>false
 | .cini c es,_=>false
 | .bf b es,e=>match e with| .Call y1 es' y2 _=>(match y1 with| .Name x _=>(match y2 with| []=>S.lj x&&decide (x=(qX b:Str))&&S.T.gbl.contains x&&gp S es es'&&decide (0<es.len)|_=>false)|_=>false)|_=>false
 | .isi a c,e=>match e with| .Call y1 y2 y3 _=>(match y1 with| .Name x _=>(match y3 with| []=>(match y2 with| [a',c']=>S.lj x&&decide (x=("isinstance":Str))&&S.T.gbl.contains x&&mE S a a'&&sr S c c'|_=>false)|_=>false)|_=>false)|_=>false
 | .lc elt sel it,e=>match e with| .ListComp elt' y1 scope _=>(match y1 with| [y2]=>(match y2 with|⟨y3,iter,y4,y5⟩=>(match y3 with| .Name x px=>(match y4 with| []=>(match y5 with|0=>dc S scope [x] sel&&mI S it (.Name x px) iter&&mE { S with sc:=bX S.sc scope,N:=x::sel.filterMap λi=>S.N[i]? } elt elt'&&bF iter|_=>false)|_=>false)|_=>false))|_=>false)|_=>false
 | .lci elt c sel it,e=>match e with| .ListComp elt' y1 scope _=>(match y1 with| [y2]=>(match y2 with|⟨y3,iter,y4,y5⟩=>(match y3 with| .Name x px=>(match y4 with| [c']=>(match y5 with|0=>dc S scope [x] sel&&mI S it (.Name x px) iter&&mE { S with sc:=bX S.sc scope,N:=x::sel.filterMap λi=>S.N[i]? } elt elt'&&mT { S with sc:=bX S.sc scope,N:=x::sel.filterMap λi=>S.N[i]? } c c'&&bF iter|_=>false)|_=>false)|_=>false))|_=>false)|_=>false
 | .lct elt n sel it,_=>false
 | .lcu elt c n sel it,_=>false
 | .dnew,e=>match e with| .Dict y1 y2 _=>(match y1 with| []=>(match y2 with| []=>true|_=>false)|_=>false)|_=>false
 | .sm m a b,e=>match e with| .Call y1 es' y2 q=>(match y1 with| .Attribute a' m' p=>(match y2 with| []=>(match es' with| [b']=>mE S a a'&&decide (m'=(qh m:Str))&&mE S b b'&&notStar b'&&bS a'&&(p.endLine ==q.line)|_=>false)|_=>false)|_=>false)|_=>false
 | .up a,_=>false
 | .isiT a cs,e=>match e with| .Call y1 y2 y3 _=>(match y1 with| .Name x _=>(match y3 with| []=>(match y2 with| [a',y4]=>(match y4 with| .Tuple es' _ _=>S.lj x&&decide (x=("isinstance":Str))&&S.T.gbl.contains x&&mE S a a'&&mQ S cs es'&&decide (cs.length<=100)|_=>false)|_=>false)|_=>false)|_=>false)|_=>false
 | .mk0 c,e=>match e with| .Call y1 y2 y3 _=>(match y1 with| .Name x _=>(match y2 with| []=>(match y3 with| []=>S.lj x&&decide (S.T.gcl.lookup x=some c)&&S.T.inip.contains c|_=>false)|_=>false)|_=>false)|_=>false
 | .disp ks es,_=>false
 | .vals tp a,_=>false
 | .dzip a b,_=>false
noncomputable def mT (S:Sn):Tx->Expr->Bool
 | .not a,e=>match e with| .UnaryOp y1 a' _=>(match y1 with| .Not=>mT S a a'|_=>false)|_=>false
 | .and a b,e=>match e with| .BoolOp y1 y2 p=>(match y1 with| .And=>(match y2 with|a'::b'::r=>mT S a a'&&mT S b (match r with| []=>b'|_=>.BoolOp .And (b'::r) p)|_=>false)|_=>false)|_=>false
 | .or a b,e=>match e with| .BoolOp y1 y2 p=>(match y1 with| .Or=>(match y2 with|a'::b'::r=>mT S a a'&&mT S b (match r with| []=>b'|_=>.BoolOp .Or (b'::r) p)|_=>false)|_=>false)|_=>false
 | .cmp op a b,e=>match e with| .Compare a' y1 y2 _=>(match y1 with| [op']=>(match y2 with| [b']=>decide (op=op')&&mE S a a'&&mE S b b'&&bF b'|_=>false)|_=>false)|_=>false
 | .cmp2 o1 o2 a b c,e=>match e with| .Compare a' y1 y2 _=>(match y1 with| [p1,p2]=>(match y2 with| [b',c']=>decide (o1=p1)&&decide (o2=p2)&&mE S a a'&&mE S b b'&&mE S c c'&&bF c'|_=>false)|_=>false)|_=>false
 | .val e,e'=>mE S e e'&&plainT e'
noncomputable def gp (S:Sn):dm->List Expr->Bool
 | .nil,es=>es.isEmpty
 | .cons e es,l=>match l with|e'::es'=>mE S e e'&&notStar e'&&gp S es es'| []=>false
noncomputable def mO (S:Sn):As->Option Expr->Bool
 | .no,o=>o.isNone
 | .yes e,o=>match o with|some e'=>mE S e e'|none=>false
noncomputable def mI (S:Sn):u0->Expr->Expr->Bool
 | .rng1 a,_,e=>match e with| .Call y1 y2 y3 _=>(match y1 with| .Name x _=>(match y3 with| []=>(match y2 with| [a']=>S.lj x&&decide (x=("range":Str))&&S.T.gbl.contains x&&mE S a a'&&notStar a'|_=>false)|_=>false)|_=>false)|_=>false
 | .rng2 a b,_,e=>false
 | .rng3 a b c,_,e=>false
 | .enm a,t,e=>false
 | .enf a,t,e=>false
 | .seq a,_,e=>mE S a e
 | .zip a b,t,e=>false
 | .zip3 a b c,t,e=>false
end
end L3
namespace L3
open PySem PySem.Spec L2
variable {e:Expr}
def plainT_ok (h:plainT e=true)(env:Env)(whole:Sem Value):isTrue e env whole=(do let v <-whole;standAt e.pos;holding [v] (truthy v)):=by
 cases e<;>first|rfl|(cases h)|skip
 case UnaryOp op a p=>cases op<;>first|rfl|cases h
def aR (h:bF e=true)(env:Env)(x:Value):foldedSetIterable e env x=pure x:=by
 cases e<;>first|rfl|cases h
def cA (h:bF e=true)(op:CmpOp):behindInMarks op e=false:=by
 cases e<;>first|rfl|cases h
def dH (h:lF e=true)(t:Option Expr)(n:Nat)(env:Env):swapsWith e t n env=pure false:=by
 cases e<;>first|rfl|cases h
variable {o:Expr}
def aG (h:bS o=true)(a:Str)(env:Env)(whole:Sem Value):attributeBase o a env whole=whole:=by
 cases o with
 |Call f as ks p=>
  cases f<;>first|rfl|skip
  case Name x q=>
   cases as with
   |nil=>cases ks with
    |nil=>cases h
    |cons k ks=>rfl
   |cons b bs=>rfl
 |_=>rfl
variable {b:Expr}
def k7 (h:cQ b=true):lT b:=by
 intro o i;cases b<;>first|rfl|cases h
variable {X:Cx}
def PE.bL {t:TE}(h:PE X e t):PE X e (λU H R=>∃ Q,t U H Q/\∀ x H1,Q x H1->R x H1):=λY s U H R I ⟨Q,q,i⟩=>
 ar (h Y s U H Q I q) λ_ _ ⟨v,H',J,r,z⟩=>⟨v,H',J,r,i _ _ z⟩
variable {t:TT}
def PT.bL (h:PT X e t):PT X e (λU H R=>∃ Q,t U H Q/\∀ x H1,Q x H1->R x H1):=λY s U H R I ⟨Q,q,i⟩=>
 ar (h Y s U H Q I q) λ_ _ ⟨H',J,z⟩=>⟨H',J,i _ _ z⟩
def PA.bL {e:List Expr}{t:TA}(h:PA X e t):PA X e (λU H R=>∃ Q,t U H Q/\∀ x H1,Q x H1->R x H1):=λpos Y s U H R I ⟨Q,q,i⟩=>
 ar (h pos Y s U H Q I q) λ_ _ ⟨v,H',J,r,z⟩=>⟨v,H',J,r,i _ _ z⟩
def PE.imp {t t':TE}(h:PE X e t)(hi:∀ U H Q,t' U H Q->t U H Q):PE X e t':=λY s U H Q I q=>h Y s U H Q I (hi _ _ _ q)
def PT.imp {t':TT}(h:PT X e t)(hi:∀ U H Q,t' U H Q->t U H Q):PT X e t':=λY s U H Q I q=>h Y s U H Q I (hi _ _ _ q)
def PS.imp {e:Stmt}{t t':TS}(h:PS X e t)(hi:∀ D U H,t' D U H->t D U H):PS X e t':=λY s U H D I q=>h Y s U H D I (hi _ _ _ q)
structure qw (P:Program) (w:World) (K:W.Frag) (mg:CF) (base:Heap) (k:Nat) (f:Addr) (d:aE) (sp:Sp):Prop where
 fact:∃ fd,bI P w K mg base (qY P w) k f fd d.ps sp/\∀ j,∃ ds,Binds K fd d.ps ds/\Vals (d.dfl.drop j) ds
 own:∀ fd oc od osl,K.lookup f=some ⟨oc,od,.func fd,osl⟩->bI P w K mg base (qY P w) k f fd d.ps sp
structure su (K:W.Frag) (mg:CF) (T:Tab) (R:Rt):Prop where
 gfn:∀ x f,T.gfn.lookup x=some f->mg x=some (.ref (R.fad f))/\W.keepIn K (.ref (R.fad f))=true/\∃ d,T.fns[f]? =some d
 gcl:∀ x c,T.gcl.lookup x=some c->mg x=some (.ref (R.cad c))
 gbl:∀ x,T.gbl.contains x=true->mg x=none/\x≠"__name__"
 gbi:∀ x,T.gbi.contains x=true->∃ B,mg x=some (.ref B)/\BR K B
 gl:∀ x v,R.gl x=some v->∃ u,mg x=some u/\RelV v u
 na:∀ i f,T.na.contains (i,f)=true->cB K (R.cad i) f
 me:∀ i m f,T.me.lookup (i,m)=some f->ua K (R.cad i)/\Meth K (R.cad i) m (R.fad f)/\∃ d,T.fns[f]? =some d
 ini0:∀ c,T.ini0.contains c=true->xY K (R.cad c)
 inip:∀ c,T.inip.contains c=true->BK K (R.cad c)
 ini:∀ c f,T.ini.lookup c=some f->(∃ d,T.fns[f]? =some d)/\if T.xc.contains c=true then AB K (R.cad c) (R.fad f) else Mk K (R.cad c) (R.fad f)
 oc:∀ c,T.oc.contains c=true->ua K (R.cad c)/\Bc K (R.cad c)
 xc:∀ c,T.xc.contains c=true->bj K (R.cad c)/\rg K (R.cad c)
 sub:∀ i j b,T.sub.lookup (i,j)=some b->W.kitOne K (.ref (R.cad i)) (.ref (R.cad j))=some b/\(T.xc.contains i=true->W.mroIn K (R.cad i) (.ref (R.cad j))=some b/\bj K (R.cad j))
 subT:∀ i n b,T.subT.lookup (i,n)=some b->W.kitOne K (.ref (R.cad i)) (.type n)=some b
 subB:∀ t n b,T.subB.lookup (t,n)=some b->W.kitOne K (.type t) (.type n)=some b
 subO:∀ t j b,T.subO.lookup (t,j)=some b->W.kitOne K (.type t) (.ref (R.cad j))=some b
 cin:∀ c f,T.cin.lookup c=some f->B8 K (R.cad c) (R.fad f)/\∃ d,T.fns[f]? =some d
structure Gd (X:Cx) (G:Gx) (S:Sn) (k:Nat) (E:St->XK):Prop where
 hK:G.R.K=X.K
 hT:S.T=G.T
 sc:X.env.scope=S.sc
 N:X.N=S.N
 nd:S.N.Nodup
 pass:Passes (qY X.prog X.w) X E
 cm:G.cm=true->X.calm=true
 room:G.cm=true->aS (k+1) X.A
 un:X.A.units+200<cLine
 tab:su X.K X.mg G.T G.R
 fns:∀ f d,G.T.fns[f]? =some d->qw X.prog X.w X.K X.mg X.base k (G.R.fad f) d (G.Ψ f)
variable {x:Str}{l es:List Expr}
section
variable {X:Cx}{G:Gx}{S:Sn}{k:Nat}{E:St->XK}
def Gd.bin (g:Gd X G S k E)(op:Operator):bp X (binaryOp op) (x8 G.R.K op):=g.hK▸xo op
def Gd.cmp (g:Gd X G S k E)(op:CmpOp):bp X (compareOp op) (jy G.R.K op):=g.hK▸xR g.un op
def Gd.glob (g:Gd X G S k E)(h:S.lj x=true):Gl X x/\(x ==("__debug__":Str))=false:=by
 unfold Sn.lj at h;simp only[lw,decide_eq_true_eq,Bool.not_eq_true']at h;refine⟨?_,h.2⟩;show X.env.scope.names.lookup x=_;rw[g.sc];exact h.1
def Gd.vT (g:Gd X G S k E)(h:S.vT x=true):yD X.env.scope x/\(x ==("__debug__":Str))=false/\(x ==("__classdict__":Str))=false:=by
 unfold Sn.vT at h;simp only[lw,Bool.or_eq_true,decide_eq_true_eq,Bool.not_eq_true']at h;refine⟨?_,h.1.2,h.2⟩;unfold yD;rw[g.sc];rcases h.1.1 with(h|h)|h
 .exact .inl h
 .exact .inr (.inl h)
 .exact .inr (.inr h)
def Gd.loc (g:Gd X G S k E){i:Nat}(h:S.loc i x=true):X.N[i]? =some x/\L2.Loc X.env.scope x:=by
 unfold Sn.loc at h;simp only[lw,Bool.or_eq_true,decide_eq_true_eq]at h;rw[g.N];refine⟨h.1,?_⟩;unfold L2.Loc;rw[g.sc];exact h.2
def az:∀ {es:dm}{l:List Expr},gp S es l=true->∀ (env:Env) (pos:Pos),(backTo pos (bm l env)).any (·.1)=false
 | .nil,[],_,_,_=>rfl
 | .nil,_::_,h,_,_=>by cases(show false=true from h)
 | .cons e es,[],h,_,_=>by cases(show false=true from h)
 | .cons e es,e'::l,h,env,pos=>by
  have h:(mE S e e'&&notStar e'&&gp S es l)=true:=h;simp only[lw]at h;rw[aa h.1.2];show((backTo pos (bm l env)).any (·.1))=false;exact az h.2 env pos
def ic:∀ {es:dm}{l:List Expr},gp S es l=true->l.length=es.len
 | .nil,[],_=>rfl
 | .nil,_::_,h=>by cases(show false=true from h)
 | .cons e es,[],h=>by cases(show false=true from h)
 | .cons e es,e'::l,h=>by
  have h:(mE S e e'&&notStar e'&&gp S es l)=true:=h;simp only[lw]at h;show l.length+1=es.len+1;rw[ic h.2]
def aM {es:dm}(h:gp S es (e::l)=true):notStar e=true/\∃ x es',es=.cons x es'/\gp S es' l=true:=by
 cases es with
 |nil=>cases(show false=true from h)
 |cons x es'=>
  have h:(mE S x e&&notStar e&&gp S es' l)=true:=h;simp only[lw]at h;exact⟨h.1.2,x,es',rfl,h.2⟩
def lL:∀ {es:dm}{l:List Expr},gp S es l=true->es.len<20->∀ (env:Env) (cpos:Pos),methodCallForm (l.length+([]:List Keyword).length) (backTo cpos (bm l env)) (backToKw cpos (keywordEach [] env))=true:=by
 intro es l h hl env cpos;have h1:=az h env cpos;have h2:=ic h;have h3:(backTo cpos (bm l env)).all (λx=>!x.1)=true:=by
  rw[all_eq_true];intro x hx;rw[any_eq_false]at h1;simpa using h1 x hx
 unfold methodCallForm;rw[h3,h2];simp[keywordEach,backToKw]
 omega
def gX {m:Str}{apos pos:Pos}{env:Env}(hb:bS o=true)(hf:methodCallForm (es.length+([]:List Keyword).length) (backTo pos (bm es env)) (backToKw pos (keywordEach [] env))=true)(hl:(apos.endLine ==pos.line)=true):
  eval (.Call (.Attribute o m apos) es [] pos) env=(do
   let ov <-eval o env
   standAt apos.atName
   let(f,first) <-holding [ov] (getMethod ov m (do return (<-importBound o env).getD true))
   callWith pos f first (backTo pos (bm es env)) (backToKw pos (keywordEach [] env))):=by
 show(do
  let ov <-attributeBase o m env (eval o env)
  standAt apos.atName
  methodCall o m apos pos env ov (es.length+([]:List Keyword).length) (backTo pos (bm es env)) (backToKw pos (keywordEach [] env)))=_
 rw[aG hb];unfold methodCall calleeOf methodCallPos;rw[hf,hl]
 rfl
def pd {es:dm}(h:gp S es (e::l)=true)(hl:es.len<20)(env:Env)(cpos:Pos):
  ((backTo cpos (bm (e::l) env)).all (λx=>!x.1)&&(backToKw cpos (keywordEach [] env)).all (λx=>x.1.isSome)
   &&decide ((e::l).length+([]:List Keyword).length+(if([]:List Keyword).isEmpty then 0 else 1)<30))=true:=by
 have h1:=az h env cpos;have h2:=ic h;have h3:(backTo cpos (bm (e::l) env)).all (λx=>!x.1)=true:=by
  rw[all_eq_true];intro x hx;rw[any_eq_false]at h1;simpa using h1 x hx
 rw[h3,h2];simp[keywordEach,backToKw]
 omega
def mf {b:Ex}{b':Expr}(h:mE S b b'=true)(n:notStar b'=true)(env:Env)(cpos:Pos):
  ((backTo cpos (bm [b'] env)).all (λx=>!x.1)&&(backToKw cpos (keywordEach [] env)).all (λx=>x.1.isSome)
   &&decide (([b']:List Expr).length+([]:List Keyword).length+(if([]:List Keyword).isEmpty then 0 else 1)<30))=true:=
 pd (es:=.cons b .nil) (by show(mE S b b'&&notStar b'&&true)=true;rw[h,n];rfl) (nl rfl) env cpos
end
variable {K:W.Frag}{H:Hp}{Y:CD}{a:Addr}
section
variable {X:Cx}{G:Gx}{S:Sn}{k:Nat}{E:St->XK}
def eu {x:V}{t:String}(h:tyName x H=some t):dP K H x (.type t):=by
 unfold tyName at h
 split at h
 .cases h;exact .non
 .cases h;exact .bl _
 .cases h;exact .int _
 .cases h;exact .str _
 .split at h
  .rename_i e;cases h;exact .lst e
  .rename_i e;cases h;exact .tup e
  .rename_i e;cases h;exact .dK (.inl e)
  .rename_i e;cases h;exact .dK (.inr ⟨_,e⟩)
  .cases h
 .cases h
def mh {s:Shared}{U:St}{Q:VK}{i:Nat}{b:Bool}{cv:Value}(g:Gd X G S k E)(I:Inv X Y U H s)(o:mY G H a i)
  (e:W.kitOne X.K (.ref (G.R.cad i)) cv=some b) (q:Q (.bl b) H):wpAny (model X.prog X.w) X.A (call (.builtin "isinstance") [.ref a,cv]) (EP X Y U Q) X.xe s:=by
 rcases o with⟨ho,dx,fs,ha⟩|⟨ho,dx,fs,fr,ha⟩
 .obtain⟨c,z⟩:=g.tab.oc i ho;exact eE I (x:=.ref a) rfl (.ins ha c z.ha z.hn z.htk z.hm) e λtk=>⟨.bl b,H,I.tok _,rfl,q⟩
 .obtain⟨c,z⟩:=g.tab.xc i ho;exact pV I ha c z e λtk=>⟨.bl b,H,I.tok _,rfl,q⟩
def uB (g:Gd X G S k E)(j:Nat):bG X (.builtin "isinstance") (λvs H Q=>∃ x,vs=[x,.ref (G.R.cad j)]/\gz G (.own j) x H Q):=by
 intro Y s U H xs us Q I r h;obtain⟨x,rfl,h⟩:=h;obtain⟨u,w',rfl,rx,rT⟩:=vals2 r;obtain rfl:w'=Value.ref (G.R.cad j):=rT;unfold gz at h;rcases h with⟨t,b,ht,hb,q⟩|⟨a,i,b,rfl,ho,hb,q⟩
 .exact eE I rx (eu ht) (g.tab.subO t j b hb) λtk=>⟨.bl b,H,I.tok _,rfl,q⟩
 .obtain rfl:u=Value.ref a:=rx;exact mh g I ho (g.tab.sub i j b hb).1 q
def xQ (g:Gd X G S k E)(n:String):bG X (.builtin "isinstance") (λvs H Q=>∃ x,vs=[x,.ty n]/\gz G (.ty n) x H Q):=by
 intro Y s U H xs us Q I r h;obtain⟨x,rfl,h⟩:=h;obtain⟨u,w',rfl,rx,rT⟩:=vals2 r;obtain rfl:w'=Value.type n:=rT;unfold gz at h;rcases h with⟨t,b,ht,hb,q⟩|⟨a,i,b,rfl,ho,hb,q⟩
 .exact eE I rx (eu ht) (g.tab.subB t n b hb) λtk=>⟨.bl b,H,I.tok _,rfl,q⟩
 .obtain rfl:u=Value.ref a:=rx;exact mh g I ho (g.tab.subT i n b hb) q
def sJ {n:String}(h:fv.contains n=true):bootBuiltins (n:Str)=some (.type n):=by
 have h':n ∈ fv:=by simpa using h
 simp only[fv,lv,not_mem_nil,or_false]at h';rcases h' with rfl|rfl|rfl|rfl|rfl|rfl|rfl<;>decide+kernel
abbrev BX (G:Gx):Cl->V
 | .own c=>.ref (G.R.cad c)
 | .ty n=>.ty n
def Af (g:Gd X G S k E){c:Cl}(h:sr S c e=true):PE X e (tC (BX G c)):=by
 unfold sr at h
 split at h
 .simp only[lw,decide_eq_true_eq]at h;obtain⟨hg,hd⟩:=g.glob h.1;exact iB hg (g.tab.gcl _ _ (g.hT▸h.2)) rfl hd
 .simp only[lw,decide_eq_true_eq]at h;obtain⟨⟨⟨h1,rfl⟩,h3⟩,h4⟩:=h;obtain⟨hg,hd⟩:=g.glob h1;obtain⟨hm,hn⟩:=g.tab.gbl _ (g.hT▸h3);exact sY hg hm (sJ h4) rfl hn hd
 .cases h
def wx (g:Gd X G S k E)(c:Cl):bG X (.builtin "isinstance") (λvs H Q=>∃ x,vs=[x,BX G c]/\gz G c x H Q):=by
 cases c with
 |own j=>exact uB g j
 |ty n=>exact xQ g n
def qT (g:Gd X G S k E){i:Nat}{b:Bool}:∀ {cs:List Nat},anyS G i cs=some b->W.kitAny X.K (.ref (G.R.cad i)) ((cs.map λc=>G.R.cad c).map Value.ref)=some b
 | [],h=>h
 |c::cs,h=>by
  have e:∀ b',G.T.sub.lookup (i,c)=some b'->W.kitOne X.K (.ref (G.R.cad i)) (.ref (G.R.cad c))=some b':=λb' hb=>(g.tab.sub i c b' hb).1
  unfold anyS at h;show(match W.kitOne X.K (.ref (G.R.cad i)) (.ref (G.R.cad c)) with|some true=>some true|some false=>W.kitAny X.K (.ref (G.R.cad i)) ((cs.map λc=>G.R.cad c).map Value.ref)|none=>none)=some b
  split at h
  .rename_i q;rw[e _ q];exact h
  .rename_i q;rw[e _ q];exact qT g h
  .cases h
def vk (g:Gd X G S k E){t:String}{b:Bool}:∀ {cs:List Nat},tS G t cs=some b->W.kitAny X.K (.type t) ((cs.map λc=>G.R.cad c).map Value.ref)=some b
 | [],h=>h
 |c::cs,h=>by
  have e:∀ b',G.T.subO.lookup (t,c)=some b'->W.kitOne X.K (.type t) (.ref (G.R.cad c))=some b':=λb' hb=>g.tab.subO t c b' hb
  unfold tS at h;show(match W.kitOne X.K (.type t) (.ref (G.R.cad c)) with|some true=>some true|some false=>W.kitAny X.K (.type t) ((cs.map λc=>G.R.cad c).map Value.ref)|none=>none)=some b
  split at h
  .rename_i q;rw[e _ q];exact h
  .rename_i q;rw[e _ q];exact vk g h
  .cases h
def tK (g:Gd X G S k E)(cs:List Nat):bG X (.builtin "isinstance") (λvs H Q=>∃ x p,vs=[x,.ref p]/\H p=some (.tup ((cs.map λc=>G.R.cad c).map V.ref))/\kg G cs x H Q):=by
 intro Y s U H xs us Q I r h;obtain⟨x,p,rfl,hp,h⟩:=h;obtain⟨u,w',rfl,rx,rT⟩:=vals2 r;obtain rfl:w'=Value.ref p:=rT;unfold kg at h;rcases h with⟨t,b,ht,hb,q⟩|⟨a,i,b,rfl,ho,hb,q⟩
 .obtain⟨P,Z,hP,hx⟩:=j4 I rx (eu (K:=X.K) ht);exact i7 I Z hP hx hp (vk g hb) λtk=>⟨.bl b,H,I.tok _,rfl,q⟩
 .obtain rfl:u=Value.ref a:=rx;rcases ho with⟨ho,dx,fs,ha⟩|⟨ho,dx,fs,fr,ha⟩
  .obtain⟨c,z⟩:=g.tab.oc i ho;obtain⟨P,Z,hP,hx⟩:=j4 I (x:=.ref a) rfl (.ins ha c z.ha z.hn z.htk z.hm);exact i7 I Z hP hx hp (qT g hb) λtk=>⟨.bl b,H,I.tok _,rfl,q⟩
  .obtain⟨c,z⟩:=g.tab.xc i ho;obtain⟨ox,odo,J⟩:=jF I ha;exact i7 I (kl (ox:=ox) (odo:=odo) c z) J (λz=>nomatch z) hp (qT g hb) λtk=>⟨.bl b,H,I.tok _,rfl,q⟩
def qB (g:Gd X G S k E):∀ {cs:List Nat}{es:List Expr},mQ S cs es=true->PA X es (λU H Q=>Q (cs.map λc=>.ref (G.R.cad c)) H)
 | [],[],_=>c8
 | [],_::_,h=>by cases(show false=true from h)
 |_::_,[],h=>by cases(show false=true from h)
 |c::cs,e::es,h=>by
  unfold mQ at h
  split at h
  .rename_i h1 h2;cases h1
  .rename_i c' cs' x p es' h1 h2;cases h1;cases h2;simp only[lw,decide_eq_true_eq]at h;obtain⟨hg,hd⟩:=g.glob h.1.1;exact iM (iB (v:=.ref (G.R.cad _)) hg (g.tab.gcl _ _ (g.hT▸h.1.2)) rfl hd) (qB g h.2) rfl
  .cases h
abbrev pA:Bf->Value
 | .len=>.builtin "len"| .list=>.type "list"| .tuple=>.type "tuple"| .int=>.type "int"| .str=>.type "str"| .min=>.builtin "min"| .max=>.builtin "max"| .abs=>.builtin "abs"| .all=>.builtin "all"| .any=>.builtin "any"| .dict=>.type "dict"| .sum=>.builtin "sum"
def t6 (b:Bf):bootBuiltins (qX b:Str)=some (pA b):=by cases b<;>decide+kernel
def mr:∀ {bs:List Bool}{us:List Value},Vals (bs.map V.bl) us->PyProof.Rows.LSm.BoolsAre us bs
 | [],_,h=>by cases h;exact .nil
 |b::bs,_,h=>by
  cases h with
  |cons r1 r2=>
   obtain rfl:_=Value.bool b:=r1;exact .cons b (mr r2)
def n9 (hc:X.calm=true):bG X (.builtin "all") (λxs H Q=>∃ p,∃ bs:List Bool,xs=[.ref p]/\aA X.K H p (bs.map V.bl)/\Q (.bl (bs.all id)) H):=by
 intro Y s U H xs us Q I r h;obtain⟨p,bs,rfl,hq,q⟩:=h;obtain⟨u,rfl,rx⟩:=vals1 r;cases rx;obtain⟨its,r',pl,hz⟩:=I.list hq;have hb:=mr r';have hl:=pl.isList;have lt:p<s.heap.objs.size:=by obtain⟨_,e,_⟩:=hl;exact ss e
 refine call_all_walk (wpAny_pyIter_list hl ⟨s.heap.objs.size,[s.heap.objs.size,p],[s.heap.objs.size],its.toArray.size,_,_,λi=>(bs[i]?).getD true,rfl,
  Walks.list (A:=X.A.in1) (I.ok.hd hc) _ p (nw lt) its.toArray,⟨⟨_,sw _ rfl,rfl,rfl⟩,hl.push _⟩,λi v s' Q' E' hP hQ=>?_,λh' tk hk=>?_⟩)
 .obtain⟨b,e,rfl⟩:=hb.get i v (by simpa using hP);have hQ:Q' ((bs[i]?).getD _) s':=hQ;rw[e]at hQ;exact bi hQ
 .have e:((List.range its.toArray.size).all λi=>(bs[i]?).getD true)=bs.all id:=by
   rw[ge,hb.length,PyProof.Rows.LSm.range_all]
  rw[e];exact⟨.bl _,H,I.kept (PyProof.Rows.LSm.kept_iter hk),rfl,q⟩
def zD (g:Gd X G S k E)(b:Bf):bG X (pA b) (ja G b):=by
 intro Y s U H xs us Q I r h;unfold ja at h;rw[g.hK]at h;cases b with
 |len=>exact pf Y s U H _ us Q I r h
 |list=>
  rcases h with h|⟨hc,p,kvs,rfl,hp,q⟩
  .exact iQ Y s U H _ us Q I r h
  .obtain⟨u,rfl,ru⟩:=vals1 r;cases ru;exact kq (g.cm hc) I hp q
 |tuple=>exact h.elim
 |int=>exact nK Y s U H _ us Q I r h
 |str=>exact h.elim
 |min=>
  rcases h with⟨hc,h|h⟩
  .exact nB (g.cm hc) Y s U H _ us Q I r h
  .exact h.elim
 |max=>exact h.elim
 |abs=>exact h.elim
 |all=>exact n9 (g.cm h.1) Y s U H _ us Q I r h.2
 |any=>exact h.elim
 |dict=>exact h.elim
 |sum=>exact oj (g.cm h.1) Y s U H _ us Q I r h.2
abbrev ye:Lm->String
 | .append=>"list.append"| .extend=>"list.extend"| .insert=>"list.insert"| .pop=>"list.pop"| .clear=>"list.clear"| .reverse=>"list.reverse"| .count=>"list.count"
def mK (m:Lm):Slot "list" (pS m:Str) (ye m):=by
 cases m
 .exact PySem.F.slot_list_append
 .exact PySem.F.slot_list_extend
 .exact PySem.F.slot_list_insert
 .exact PySem.F.slot_list_pop
 .exact PySem.F.slot_list_clear
 .exact PySem.F.slot_list_reverse
 .exact PySem.F.slot_list_count
def vg (m:Lm):typeOf (.builtin (ye m))=pure (.type "method_descriptor"):=by cases m<;>rfl
def pO (hu:X.A.units+200<cLine):yb X "list.index" (λx vs H Q=>∃ l y,x=.ref l/\vs=[y]/\qM X.K l y H Q):=by
 intro Y s U H x vs v us Q I rx rv h;obtain⟨l,y,rfl,rfl,h⟩:=h;unfold qM at h;obtain⟨xs,e,j,xj,hH,h10,he,hj,ej,hm,q⟩:=h;cases rx;cases rv with
 |cons ry rr=>
  cases rr;obtain⟨z,its,n,r,hl,eh⟩:=I.qp hH;have ab:∀ (m:Nat) (hm:m<its.toArray.size),∃ x,xs[m]? =some x/\RelV x its.toArray[m]:=λm hm=>by
   have hlen:=r.length;have h1:xs[m]? =some (xs[m]'(by simp at hm;omega)):=lf _;obtain⟨u,hu,ru⟩:=r.get h1;refine⟨_,h1,?_⟩;have:its.toArray[m]=u:=by
    have:=re.mp hu;simpa using this.2
   rw[this];exact ru
  have hjl:=(re.mp hj).1;have hlen:=r.length;have val:∀ (m:Nat) (hm:m<its.toArray.size) x,xs[m]? =some x->(match wz its.toArray[m] with|some x=>e x|none=>false)=e x:=λm hm x hx=>by
   obtain⟨x',h1,h2⟩:=ab m hm;rw[hx]at h1;cases h1;rw[h2.abs]
  refine call_meets PySem.F.slot_list_index ⟨_,eh,rfl⟩ PySem.F.entry_list_index (PySem.F.args_list_index_2 _ _) (SeqAt.list_indexAt l its.toArray n none #[] _ (λu=>match wz u with|some x=>e x|none=>false) j (by simp;omega) nofun ((val j (by simp;omega) xj hj).trans ej) (λm hm' hlt=>?_)) ⟨eh,λu hu'=>?_,?_⟩
  .obtain⟨x',h1,h2⟩:=ab m hm';rw[val m hm' x' h1];exact hm m x' hlt h1
  .obtain⟨m,hm',rfl⟩:=Array.getElem_of_mem hu';obtain⟨x',h1,h2⟩:=ab m hm';obtain⟨k,hk,ek⟩:=he x' (cr h1);have:=(fQ I ek (A:=X.A.in1) (by show X.A.units+_+k<cLine;omega) h2 ry).1;rw[val m hm' x' h1];exact this
  .exact⟨.int _,H,I.tok _,⟨_,rfl⟩,q⟩
abbrev Cs (m:Lm):V->List V->Hp->VK->Prop:=λx vs H Q=>∃ p xs,x=.ref p/\H p=some (.lst xs)/\zl m p xs vs H Q
def vt (m:Lm):yb X (ye m) (Cs m):=by
 intro Y s U H x vs v us Q I rx rv h;obtain⟨p,xs,rfl,hp,h⟩:=h;unfold zl at h;cases m with
 |append=>
  obtain⟨y,rfl,h⟩:=h;exact eg Y s U H _ _ v us Q I rx rv ⟨p,xs,_,rfl,rfl,hp,Nat.lt_of_le_of_lt h.1 (by decide),h.2⟩
 |extend=>exact h.elim
 |insert=>exact h.elim
 |pop=>exact h.elim
 |clear=>exact h.elim
 |reverse=>exact h.elim
 |count=>exact h.elim
abbrev v5:Sm->String
 | .join=>"str.join"| .split=>"str.split"| .starts=>"str.startswith"
def t9 (m:Sm):Slot "str" (qh m:Str) (v5 m):=by
 cases m
 .exact PySem.F.slot_str_join
 .exact PySem.F.slot_str_split
 .exact PySem.F.slot_str_startswith
def zG (m:Sm):typeOf (.builtin (v5 m))=pure (.type "method_descriptor"):=by cases m<;>rfl
abbrev B9 (K:W.Frag)(m:Sm):V->List V->Hp->VK->Prop:=λx vs H Q=>∃ z y,x=.str z/\vs=[y]/\Ai K m z y H Q
def Al (m:Sm):yb X (v5 m) (B9 X.K m):=by
 intro Y s U H x vs v us Q I rx rv h;obtain⟨z,y,rfl,rfl,h⟩:=h;unfold Ai at h;cases m with
 |join=>exact tG Y s U H _ _ v us Q I rx rv h
 |split=>exact h.elim
 |starts=>exact h.elim
def pQ {m:Str}{apos pos:Pos}{ta:TE}{t:TA}{pl:Sem Bool}{n:Nat}(g:Gd X G S k E)(hc:G.cm=true)(he:PE X o ta)(ha:PA X es t)
  (hnil:es=[]->∀ U H R,t U H R->R [] H) (hst:∀ e r,es=e::r->bm es X.env=(false,eval e X.env)::bm r X.env) (hpl:∀ e r,es=e::r->(backTo pos (bm r X.env)).any (·.1)=false)
  (ht:eval (.Call (.Attribute o m apos) es [] pos) X.env=(do
   let ov <-eval o X.env
   standAt apos.atName
   let(f,first) <-holding [ov] (getMethod ov m pl)
   callWith pos f first (backTo pos (bm es X.env)) (backToKw pos (keywordEach [] X.env)))):
  PE X (.Call (.Attribute o m apos) es [] pos) (λU H Q=>ta U H λx H1=>∃ p i dx fs f,x=.ref p/\H1 p=some (.ins (G.R.cad i) dx fs)/\fs.lookup m=none/\G.T.me.lookup (i,m)=some f/\
   t U H1 λvs H2=>G.Ψ f (x::(vs++dflt G f n)) H2 Q (E U)):=by
 intro Y s U H Q I h;refine W.methodCall_KW (pl:=pl) (ar (he Y s U H _ I h) λu s1 ⟨x,H1,I1,rx,a,i,dx,fs,f,ex,ea,l,hf,q⟩=>?_) ht;subst ex;obtain rfl:u=Value.ref a:=rx;obtain⟨c,hm,d,hd⟩:=g.tab.me i m f hf;obtain⟨fd,F,B⟩:=(g.fns f d hd).fact;have hr:aS k X.A:=(g.room hc).mono (Nat.le_succ _);obtain⟨ds,hb,hv⟩:∃ ds,Binds X.K fd d.ps ds/\Vals (dflt G f n) ds:=by
  unfold dflt;rw[hd];exact B _
 refine kP I1 ea c hm l ?_;cases es with
 |nil=>
  refine W.callWith_K0 (first:=[.ref a]) I1.aT hm.kp ?_;exact iJ (us:=[.ref a]) (vs:=[.ref a]) F hr hb hv g.pass I1 (.cons rfl .nil) (hnil rfl _ _ _ q)
 |cons e r=>
  refine W.callWith_K (first:=[.ref a]) (h₀:=X.base) I.ok.mod.kin hm.kp (ar (ha pos Y s1 U H1 _ I1 q) λus s2 ⟨vs,H2,I2,r,q2⟩=>⟨I2.aT,?_⟩) (hst e r rfl) (hpl e r rfl);exact iJ (us:=.ref a::us) (vs:=.ref a::vs) F hr hb hv g.pass I2 (.cons rfl r) q2
end
def vF {α β:Type}{f:α->Option β}:∀ {l:List α}{j:Nat}{y:β},(∀ a ∈ l,(f a).isSome=true)->(l.filterMap f)[j]? =some y->∃ a,l[j]? =some a/\f a=some y
 | [],_,_,_,h=>by simp at h
 |a::l,j,y,hs,h=>by
  obtain⟨b,hb⟩:=Option.isSome_iff_exists.mp (hs a li);rw[filterMap_cons,hb]at h;cases j with
  |zero=>simp at h;exact⟨a,rfl,by rw[hb,h]⟩
  |succ j=>
   simp at h;obtain⟨a',h1,h2⟩:=vF (λa ha=>hs a (dl _ ha)) h;exact⟨a',by simpa using h1,h2⟩
def rF {α β:Type}{f:α->Option β}:∀ {l:List α},(∀ a ∈ l,(f a).isSome=true)->(l.filterMap f).length=l.length
 | [],_=>rfl
 |a::l,hs=>by
  obtain⟨b,hb⟩:=Option.isSome_iff_exists.mp (hs a li);rw[filterMap_cons,hb];simp[rF (λa ha=>hs a (dl _ ha))]
abbrev gm (env:Env):Str×NameKind->List (Str×Addr)->Sem (ForInStep (List (Str×Addr))):=λnk r=>do
 let cs:=r
 if(nk.2 ==NameKind.free)=true then do
  let a <-cellOf env nk.1
  pure (ForInStep.yield ((nk.1,a)::cs))
 else pure (ForInStep.yield cs)
def iD {env:Env}:∀ (names:List (Str×NameKind)) (cs:List (Str×Addr)),(∀ y ∈ names,y.2=.free->∃ c,env.cells.lookup y.1=some c)->
  ∃ cl,(forIn names cs (gm env):Sem _)=pure cl/\(∀ y c,cl.lookup y=some c->cs.lookup y=some c\/env.cells.lookup y=some c)/\(∀ y,(cs.lookup y).isSome=true->(cl.lookup y).isSome=true)/\∀ y ∈ names,y.2=.free->(cl.lookup y.1).isSome=true
 | [],cs,_=>⟨cs,rfl,λy c h=>.inl h,λy h=>h,λy hy=>absurd hy (by simp)⟩
 |(n,kd)::r,cs,h=>by
  by_cases hk:kd=.free
  .subst hk;obtain⟨c,hc⟩:=h (n,.free) li rfl;obtain⟨cl,h1,h2,h3,h4⟩:=iD r ((n,c)::cs) λy hy=>h y (dl _ hy)
   have self:(((n,c)::cs).lookup n).isSome=true:=by simp[lookup_cons]
   refine⟨cl,?_,λy d q=>?_,λy q=>h3 y ?_,λy hy hf=>?_⟩
   .rw[forIn_cons];have e:gm env (n,.free) cs=pure (ForInStep.yield ((n,c)::cs)):=by
     unfold gm;simp only[cellOf,hc]
     rfl
    rw[e];exact h1
   .rcases h2 y d q with q|q
    .rw[lookup_cons]at q
     by_cases e:y=n
     .subst e;simp at q;subst q;exact .inr hc
     .rw[show(y ==n)=false from beq_eq_false_iff_ne.mpr e]at q;exact .inl q
    .exact .inr q
   .rw[lookup_cons];cases(y ==n)<;>simp[q]
   .rcases lv.mp hy with rfl|hy
    .exact h3 _ self
    .exact h4 y hy hf
  .obtain⟨cl,h1,h2,h3,h4⟩:=iD r cs λy hy=>h y (dl _ hy)
   refine⟨cl,?_,h2,h3,λy hy hf=>?_⟩
   .rw[forIn_cons];have e:gm env (n,kd) cs=pure (ForInStep.yield cs):=by
     unfold gm;cases kd<;>first|rfl|exact absurd rfl hk
    rw[e];exact h1
   .rcases lv.mp hy with rfl|hy
    .exact absurd hf hk
    .exact h4 y hy hf
variable {scope:Scope}
def sX {env:Env}(h:∀ y ∈ scope.names,y.2=.free->∃ c,env.cells.lookup y.1=some c):
  ∃ cl,closureFor scope env=pure cl/\(∀ y c,cl.lookup y=some c->env.cells.lookup y=some c)/\∀ y ∈ scope.names,y.2=.free->(cl.lookup y.1).isSome=true:=by
 obtain⟨cl,h1,h2,_,h4⟩:=iD scope.names [] h;refine⟨cl,?_,λy c q=>(h2 y c q).resolve_left (by simp),h4⟩;have e:closureFor scope env=(forIn scope.names [] (gm env) >>= λcs=>pure cs):=by
  unfold closureFor gm
  rfl
 rw[e,h1]
 rfl
variable {xs:List Str}{sel:List Nat}
section
variable {X:Cx}{G:Gx}{S:Sn}{k:Nat}{E:St->XK}
def kn (g:Gd X G S k E)(scope:Scope):relabel scope X.env=bX S.sc scope:=by
 unfold relabel bX Env.kindOf;rw[g.sc]
def a9 (g:Gd X G S k E)(ok:X.Ok)(h:dc S scope xs sel=true):∃ cl,aI X scope cl xs (sel.filterMap λi=>S.N[i]?) sel:=by
 unfold dc at h;simp only[lw,decide_eq_true_eq,all_eq_true,Bool.or_eq_true,bne_iff_ne,ne_eq]at h;obtain⟨⟨⟨⟨⟨h1,h2⟩,h3⟩,h4⟩,h5⟩,h6⟩:=h;have hs:∀ i ∈ sel,(S.N[i]?).isSome=true:=λi hi=>by
  have:=h5 i hi
  split at this
  .rename_i e;rw[e];rfl
  .cases this
 obtain⟨cl,c1,c2,c3⟩:=sX (env:=X.env) (scope:=scope) λy hy hf=>ok.has y.1 (.inl (by
  show X.env.scope.names.lookup y.1=_;rw[g.sc];exact((h3 y hy).2).resolve_left λz=>z hf))
 refine⟨cl,⟨c1,c2,λy hy=>?_,h1,λy hy=>(h3 y hy).1.1,λy hy hl=>((h3 y hy).1.2).resolve_left λz=>z hl,h4,(rF hs).symm,λj y hj=>?_,h6⟩⟩
 .have:∃ kd,(y,kd) ∈ scope.names/\kd=.free:=by
   rcases hy with hy|hy
   .obtain⟨kd,m,q⟩:=bO hy;rcases q with q|q
    .subst q;exact absurd rfl (h3 _ m).1.1
    .exact⟨kd,m,q.1⟩
   .obtain⟨kd,m,q⟩:=bO hy;rcases q with q|q
    .exact⟨kd,m,q.symm⟩
    .exact nomatch q.2
  obtain⟨kd,m,rfl⟩:=this;exact Option.isSome_iff_exists.mp (c3 _ m rfl)
 .obtain⟨i,hi,hn⟩:=vF hs hj;have q:=h5 i (cr hi);rw[hn]at q;simp only[lw,decide_eq_true_eq]at q;refine⟨i,hi,by rw[g.N];exact hn,by rw[g.sc];exact q.1,by rw[kn g];exact q.2⟩
def Gd.comp (g:Gd X G S k E){cl:List (Str×Addr)}(C:aI X scope cl xs (sel.filterMap λi=>S.N[i]?) sel) (s:Shared) (H:Hp) (fp:List Addr):
  Gd (c6 X scope cl (xs++sel.filterMap λi=>S.N[i]?) s H fp) G { S with sc:=bX S.sc scope,N:=xs++sel.filterMap λi=>S.N[i]? } k (λ_ _ _=>False) where
 hK:=g.hK
 hT:=g.hT
 sc:=kn g scope
 N:=rfl
 nd:=C.nd
 pass:=λY U H s e s' I h=>by
  obtain⟨e,H',C,dx,fs,T,_,_,_,_,_,_,_,_,_,q⟩:=h;exact q.elim
 cm:=g.cm
 room:=g.room
 un:=g.un
 tab:=g.tab
 fns:=g.fns
def jl (env:Env):∀ {is:List Nat}{ts:List Expr},se S is ts=true->(assignEach ts env).length=is.length/\(assignEach ts env).findIdx? (·.1)=none
 | [],[],_=>⟨rfl,rfl⟩
 | [],_::_,h=>by simp[se]at h
 |_::_,[],h=>by simp[se]at h
 |i::is,t::ts,h=>by
  cases t<;>simp[se]at h
  rename_i x p;obtain⟨h1,h2⟩:=jl env h.2;have e:assignEach (.Name x p::ts) env=(false,assign (.Name x p) env)::assignEach ts env:=rfl;rw[e];refine⟨by simp[h1],?_⟩;rw[List.findIdx?_cons];simp[h2]
def mJ (g:Gd X G S k E):∀ {is:List Nat}{ts:List Expr},se S is ts=true->vJ X ts (gl is)
 | [],[],_=>λY s U H vs us Q I r h=>iP Y s U H vs us Q I r ⟨length_eq_zero_iff.mp h.1,by
   have:=h.2;have e:vs=[]:=length_eq_zero_iff.mp h.1;subst e;exact this⟩
 | [],_::_,h=>by simp[se]at h
 |_::_,[],h=>by simp[se]at h
 |i::is,t::ts,h=>by
  cases t<;>simp[se]at h
  rename_i x p;have hl:X.env.scope.names.lookup x=some .local:=by rw[g.sc];exact h.1.2
  have h1:PG X (.Name x p) (dn i):=dR (by rw[g.N];exact g.nd) (by rw[g.N];exact h.1.1) (.inl hl) (.inr hl);have h2:=mJ g h.2;intro Y s U H vs us Q I r q;refine dB h1 h2 rfl Y s U H vs us Q I r ?_;obtain⟨hl,q⟩:=q;cases vs with
  |nil=>simp at hl
  |cons v vs=>exact⟨v,vs,rfl,by simpa using hl,q⟩
def uh (g:Gd X G S k E)(hc:G.cm=true){n kt:Nat}{ts:List Expr}{pt:Pos}(h:se S (List.range n) ts=true):PG X (.Tuple ts kt pt) (t4 G.R.K n (gl (List.range n))):=by
 obtain⟨e1,e2⟩:=jl X.env h;rw[length_range]at e1;rw[g.hK];exact iV (g.cm hc) (mJ g h) e1 e2
def uu {n:Nat}(h:xs.length=n):jU xs=pi n none:=by
 subst h;unfold jU;rw[List.map_const']
end
set_option maxHeartbeats 2000000
variable {r:List Expr}{p:Pos}{U:L2.St}{s1:Shared}{R:It->Hp->Prop}{keys:List (Option Expr)}
section
variable {G:Gx}{k:Nat}
def fS {o1 o2:CmpOp}{c:Expr}(h:bF c=true):lastMarks [o1,o2] [b,c]=false:=by
 show behindInMarks o2 c=false;exact cA h _
def rK {t:TE}(h:PE X (match r with| []=>b|_=>.BoolOp .And (b::r) p) t):PE X (.BoolOp .And (b::r) p) t:=by
 cases r with
 |nil=>exact pk h
 |cons c r=>exact h
def qS {t:TE}(h:PE X (match r with| []=>b|_=>.BoolOp .Or (b::r) p) t):PE X (.BoolOp .Or (b::r) p) t:=by
 cases r with
 |nil=>exact pk h
 |cons c r=>exact h
def vB {op:BoolOp}(h:PT X (.BoolOp op l p) t):PW X (.BoolOp op l p) t:=λwhole Y s U H Q I q=>by
 have:=h Y s U H Q I q;exact this
def qz (h:PT X (match r with| []=>b|_=>.BoolOp .And (b::r) p) t):PW X (.BoolOp .And (b::r) p) t:=by
 cases r with
 |nil=>exact uc h
 |cons c r=>exact vB h
def qG (h:PT X (match r with| []=>b|_=>.BoolOp .Or (b::r) p) t):PW X (.BoolOp .Or (b::r) p) t:=by
 cases r with
 |nil=>exact v7 h
 |cons c r=>exact vB h
def uN:Ax X (unaryOp .USub) (λx H Q=>match x with| .int i=>Q (.int (-i)) H|_=>False):=by
 intro Y s U H x v Q I r h
 split at h
 .exact(L2.xH Y s U H _ v Q I r ⟨_,rfl,h⟩)
 .exact h.elim
def m8 {CX:mN}{C f:Addr}{fd:FuncData}{ps:List Str}{sp:Sp}{dvs:List V}{ds:List Value}{E:St->XK}{pos:Pos}(M:AB X.K C f)(F:bI X.prog X.w X.K X.mg X.base CX k f fd ps sp)(hr:aS (k+1) X.A)(hg:Gl X x)(hm:X.mg x=some (.ref C))(hb:Binds X.K fd ps ds)(hd:Vals dvs ds)(hx:Passes CX X E)
  (hdb:(x ==("__debug__":Str))=false):PE X (.Call (.Name x p) [] [] pos) (qk C sp dvs E uE):=by
 intro Y s U H Q I h;refine bv (aN I hg hm ?_ hdb);exact W.callWith_K0 I.aT M.kp (gZ (us:=[]) M F hr hb hd hx (Nat.zero_le _) I .nil h.2)
def bp.bL {f:Value->Value->Sem Value}{r:R2}(h:bp X f r):bp X f (λx y H R=>∃ Q,r x y H Q/\∀ z H1,Q z H1->R z H1):=λY s U H x y v u R I rx ry ⟨Q,q,i⟩=>
 ar (h Y s U H x y v u Q I rx ry q) λ_ _ ⟨v,H',J,r,z⟩=>⟨v,H',J,r,i _ _ z⟩
section
open PyProof.Rows
def nQ {tg:Expr}{H1:Hp}{v:Value}{xs:List V}(I1:Inv X Y U H1 s1)(r:RelV (.ref a) v)(hq:aA X.K H1 a xs)(q:R (yp X.K a) H1):
  wpAny (model X.prog X.w) X.A (pyIter v) (xh X Y U tg R) X.xe s1:=by
 cases r;obtain⟨its,rv,p,hz⟩:=I1.list hq;refine wpAny_pyIter_list p.isList ?_;refine⟨s1.heap.objs.size,[s1.heap.objs.size],_,_,H1,rfl,I1.kept (t':=s1.toks) λb o e=>sn _ e,nF a _,⟨_,sw _ rfl,rfl,rfl⟩,λb hb=>?_,q⟩;have e:b=s1.heap.objs.size:=by simpa using hb
 subst e;exact I1.ql (ol _) (I1.hok.fresh (ol _))
def rV {tg:Expr}{H1:Hp}{v:Value}{xs:List V}(I1:Inv X Y U H1 s1)(r:RelV (.ref a) v)(hq:cV X.K H1 a xs)(q:R (AW X.K a) H1):
  wpAny (model X.prog X.w) X.A (pyIter v) (xh X Y U tg R) X.xe s1:=by
 cases r;obtain⟨its,rv,p,hz⟩:=I1.tuple hq;refine wpAny_pyIter_tuple (show s1.heap.IsTuple a its.toArray from p) ?_;refine⟨s1.heap.objs.size,[s1.heap.objs.size],_,_,H1,rfl,I1.kept (t':=s1.toks) λb o e=>sn _ e,lu a _,⟨_,sw _ rfl,rfl,rfl⟩,λb hb=>?_,q⟩;have e:b=s1.heap.objs.size:=by simpa using hb
 subst e;exact I1.ql (ol _) (I1.hok.fresh (ol _))
end
def xg {x:V}{Q:Bool->Hp->Prop}(h:vS K x H Q):∃ k,uK K x H k/\Q k H:=by
 unfold vS at h
 split at h
 .exact⟨_,rfl,h⟩
 .exact h
abbrev B2:List Str->List V->List (V×V)
 |k::ks,x::xs=>(.str k,x)::B2 ks xs
 |_,_=>[]
def n5 {k:Str}{ks:List Str}(h:nU (k::ks) keys=true):∃ j p r,keys=some (.Constant (.str k) j p)::r/\nU ks r=true:=by
 unfold nU at h
 split at h
 .rename_i e;cases e
 .rename_i k' ks' x j p r e
  injection e with e1 e2
  subst e1 e2;simp only[lw,decide_eq_true_eq]at h;obtain⟨rfl,h⟩:=h;exact⟨_,_,_,rfl,h⟩
 .cases h
def qt (h:nU [] keys=true):keys=[]:=by
 cases keys with
 |nil=>rfl
 |cons a r=>cases(show false=true from h)
mutual
theorem sE:∀ (x:Ex){X:Cx}{S:Sn}{E:St->XK},Gd X G S k E->∀ {e:Expr},mE S x e=true->PE X e (λU H Q=>wE G x U H Q (E U))
 | .v i,X,S,E,g,e,h=>by
  sleep 1
  simp only[lw,decide_eq_true_eq]at h;obtain⟨h1,h2⟩:=h;obtain⟨v1,v2,v3⟩:=g.vT h2;refine PE.imp (w6 (i:=i) (by rw[g.N];exact h1) v1 v2 v3) λU H Q q=>?_
  conv at q=>whnf
  split at q
  .rename_i e;exact⟨_,e,q⟩
  .exact q.elim
 | .int i,X,S,E,g,e,h=>by
  sleep 2
  simp only[decide_eq_true_eq]at h;subst h;exact vU
 | .bl i,X,S,E,g,e,h=>by
  sleep 2
  simp only[decide_eq_true_eq]at h;subst h;exact Ag
 | .non,X,S,E,g,e,h=>by
  sleep 2
  exact xP
 | .str i,X,S,E,g,e,h=>by
  sleep 2
  simp only[decide_eq_true_eq]at h;subst h;exact o5
 | .gl x,X,S,E,g,e,h=>by
  sleep 1
  simp only[lw,decide_eq_true_eq]at h;obtain⟨rfl,h2⟩:=h;obtain⟨hg,hd⟩:=g.glob h2;intro Y s U H Q I q
  conv at q=>whnf
  split at q
  .rename_i v e;obtain⟨u,hm,r⟩:=g.tab.gl _ v e;exact iB hg hm r hd Y s U H Q I q
  .exact q.elim
 | .bin op a b,X,S,E,g,e,h=>by
  sleep 1
  simp only[lw,decide_eq_true_eq]at h;obtain⟨⟨rfl,ha⟩,hb⟩:=h;exact zE (g.bin op) (sE a g ha) (sE b g hb)
 | .neg a,X,S,E,g,e,h=>by
  sleep 2
  exact zu uN (sE a g h)
 | .not a,X,S,E,g,e,h=>by
  sleep 2
  refine PE.imp (v8 (PE.bL (sE a g h))) λU H Q q=>⟨_,q,λx H1 z=>?_⟩
  split at z
  .exact⟨_,rfl,z⟩
  .exact z.elim
 | .and a b,X,S,E,g,e,h=>by
  sleep 3
  simp only[lw]at h;refine PE.imp (yc (PE.bL (sE a g h.1)) (rK (sE b g h.2))) λU H Q q=>⟨_,q,λx H1 z=>?_⟩
  split at z
  .rw[cp]at z;exact⟨_,rfl,z⟩
  .exact z.elim
 | .or a b,X,S,E,g,e,h=>by
  sleep 3
  simp only[lw]at h;refine PE.imp (yF (PE.bL (sE a g h.1)) (qS (sE b g h.2))) λU H Q q=>⟨_,q,λx H1 z=>?_⟩
  split at z
  .rw[cp]at z;exact⟨_,rfl,z⟩
  .exact z.elim
 | .cmp op a b,X,S,E,g,e,h=>by
  sleep 3
  simp only[lw,decide_eq_true_eq]at h;obtain⟨⟨⟨rfl,ha⟩,hb⟩,hn⟩:=h;exact sR (g.cmp op) (sE a g ha) (sE b g hb) (cA hn _)
 | .cmp2 o1 o2 a b c,X,S,E,g,e,h=>by
  sleep 3
  simp only[lw,decide_eq_true_eq]at h;obtain⟨⟨⟨⟨⟨rfl,rfl⟩,ha⟩,hb⟩,hc⟩,hn⟩:=h;refine PE.imp (qb (bp.bL (g.cmp o1)) (g.cmp o2) (PE.bL (sE a g ha)) (PE.bL (sE b g hb)) (sE c g hc) (fS hn)) λU H Q q=>⟨_,q,λx H1 q1=>⟨_,q1,λy H2 q2=>⟨_,q2,λz H3 q3=>?_⟩⟩⟩
  split at q3
  .rw[cp]at q3;exact⟨_,rfl,q3⟩
  .exact q3.elim
 | .cmp3 o1 o2 o3 a b c d,X,S,E,g,e,h=>by cases(show false=true from h)
 | .ife c a b,X,S,E,g,e,h=>by
  sleep 1
  simp only[lw]at h;exact PE.imp (qx (PT.bL (sT c g h.1.1)) (sE a g h.1.2) (sE b g h.2)) λU H Q q=>⟨_,q,λk H1 z=>by rwa [cp]at z⟩
 | .tup es,X,S,E,g,e,h=>by
  sleep 1
  refine PE.imp (qK (PA.bL (oy es g h))) λU H Q q=>⟨_,q,λx H1 z=>by unfold om at z;exact⟨eY (by have:=z.1;omega),z.2⟩⟩
 | .lst es,X,S,E,g,e,h=>by
  sleep 1
  refine PE.imp (vO (PA.bL (oy es g h))) λU H Q q=>⟨_,q,λx H1 z=>by unfold rm at z;exact⟨eY (by have:=z.1;omega),z.2⟩⟩
 | .ix a i,X,S,E,g,e,h=>by
  sleep 1
  simp only[lw]at h;have hr:yv X (lX G.R.K):=g.hK▸kC g.un;exact zT hr (sE a g h.1.1) (sE i g h.1.2) (k7 h.2)
 | .sl a lo hi,X,S,E,g,e,h=>by
  sleep 3
  simp only[lw]at h;have hr:Ar X (yx G.R.K):=g.hK▸xy;exact qA hr (sE a g h.1.1) (sO lo g h.1.2) (sO hi g h.2)
 | .fld a f,X,S,E,g,e,h=>by
  sleep 1
  simp only[lw,decide_eq_true_eq]at h;obtain⟨⟨ha,rfl⟩,hn⟩:=h;intro Y s U H Q I q;have q':wE G a U H (λx H1=>sk G f x H1 Q) (E U):=q;refine uH (aG hn _ _ _) (ar (sE a g ha Y s U H _ I q') λu s1 ⟨x,H1,I1,rx,qf⟩=>?_);unfold sk at qf;obtain⟨a,i,fs,v,ex,ea,hna,l,q⟩:=qf;subst ex;obtain rfl:u=Value.ref a:=rx;have n:=g.tab.na i f hna;rcases ea with⟨ho,dx,ea⟩|⟨ho,dx,fr,ea⟩
  .exact kD I1 ea (g.tab.oc i ho).1 n l λu' s' J rv=>⟨v,H1,J,rv,q⟩
  .exact nv I1 ea (g.tab.xc i ho).1 n l λu' s' J rv=>⟨v,H1,J,rv,q⟩
 | .call f es,X,S,E,g,e,h=>by
  sleep 3
  rename_i es' pos _ xn p1 _;simp only[lw,decide_eq_true_eq]at h;obtain⟨⟨h1,h2⟩,h3⟩:=h;obtain⟨hg,hdb⟩:=g.glob h1;obtain⟨hm,hk,d,hd⟩:=g.tab.gfn _ _ (g.hT▸h2);obtain⟨fd,F,B⟩:=(g.fns f d hd).fact;obtain⟨ds,hb,hv⟩:∃ ds,Binds X.K fd d.ps ds/\Vals (dflt G f es.len) ds:=by
   unfold dflt;rw[hd];exact B _
  intro Y s U H Q I q;obtain⟨hc,q⟩:=(show G.cm=true/\wEs G es U H (λvs H1=>G.Ψ f (vs++dflt G f es.len) H1 Q (E U)) (E U) from q);have hr:aS k X.A:=(g.room hc).mono (Nat.le_succ _);cases es' with
  |nil=>
   cases es with
   |nil=>exact rE F hr hg hm hk hb hv g.pass hdb Y s U H Q I q
   |cons _ _=>cases(show false=true from h3)
  |cons e0 er=>
   have PAs:=oy es g h3;obtain⟨ns,x0,xr,rfl,h4⟩:=aM h3;exact tI F hr hg hm hk hb hv g.pass PAs hdb (aa ns) (az h4 _ _) Y s U H Q I q
 | .meth a m es,X,S,E,g,e,h=>by
  sleep 3
  rename_i es' pos _ a' m' apos _;simp only[lw,decide_eq_true_eq]at h;obtain⟨⟨⟨⟨⟨ha,rfl⟩,h3⟩,h4⟩,h5⟩,h6⟩:=h;intro Y s U H Q I q;obtain⟨hc,q⟩:=(show G.cm=true/\_ from q);refine pQ (n:=es.len+1) g hc (sE a g ha) (oy es g h3) (λz U H R hr=>?_) (λe r z=>?_) (λe r z=>?_) (gX h4 (lL h3 h6 _ _) h5) Y s U H Q I q
  .subst z;cases es with
   |nil=>exact hr
   |cons _ _=>cases(show false=true from h3)
  .subst z;exact aa (aM h3).1
  .subst z;have PAs:=oy es g h3;obtain⟨ns,x0,xr,rfl,h4⟩:=aM h3;exact az h4 _ _
 | .lm m a es,X,S,E,g,e,h=>by
  sleep 3
  rename_i es' pos _ a' m' apos _;simp only[lw,decide_eq_true_eq]at h;obtain⟨⟨⟨⟨⟨ha,rfl⟩,h3⟩,h4⟩,h5⟩,h6⟩:=h;cases es' with
  |nil=>
   cases es with
   |nil=>exact PE.imp (yj PySem.F.plainAttrs_list (mK m) (vg m) (vt m) (PE.bL (sE a g ha)) (aG h4 _ _ _) h5) λU H Q q=>⟨_,q,λx H1 z=>by
     obtain⟨p,xs0,ex,hp,q⟩:=z;subst ex;obtain⟨xs,h1,h2⟩:=q;exact⟨.inl ⟨rfl,xs0,aA.of hp⟩,p,xs,rfl,h1,h2⟩⟩
   |cons _ _=>cases(show false=true from h3)
  |cons e0 er=>
   have PAs:=oy es g h3;obtain⟨ns,x0,xr,rfl,h7⟩:=aM h3;exact PE.imp (o7 PySem.F.plainAttrs_list (mK m) (vg m) (vt m) (PE.bL (sE a g ha)) (PA.bL PAs) (aG h4 _ _ _) (pd h3 h6 _ _) h5 (aa ns) (az h7 _ _)) λU H Q q=>⟨_,q,λx H1 z=>by
     obtain⟨p,xs0,ex,hp,q⟩:=z;subst ex;exact⟨.inl ⟨rfl,xs0,aA.of hp⟩,_,q,λvs H2 ⟨xs,h1,h2⟩=>⟨p,xs,rfl,h1,h2⟩⟩⟩
 | .dget a k d,X,S,E,g,e,h=>by cases(show false=true from h)
 | .rev a b,X,S,E,g,e,h=>by cases(show false=true from h)
 | .lix a b,X,S,E,g,e,h=>by
  sleep 4
  simp only[lw,decide_eq_true_eq]at h;obtain⟨⟨⟨⟨⟨ha,rfl⟩,h3⟩,n1⟩,h4⟩,h5⟩:=h;exact PE.imp (o7 PySem.F.plainAttrs_list PySem.F.slot_list_index rfl (pO g.un) (PE.bL (sE a g ha)) (iM (PE.bL (sE b g h3)) c8 n1) (aG h4 _ _ _) (mf h3 n1 _ _) h5 (aa n1) rfl) λU H Q q=>⟨_,q,λx H1 z=>by
   obtain⟨p,xs0,ex,hp,q⟩:=z;subst ex;exact⟨.inl ⟨rfl,xs0,aA.of hp⟩,_,q,λy H2 z=>⟨p,y,rfl,rfl,g.hK▸z⟩⟩⟩
 | .make c es,X,S,E,g,e,h=>by
  sleep 3
  rename_i es' pos _ xn p1 _;simp only[lw,decide_eq_true_eq]at h;obtain⟨⟨h1,h2⟩,h3⟩:=h;obtain⟨hg,hdb⟩:=g.glob h1;have hm:=g.tab.gcl _ _ (g.hT▸h2);intro Y s U H Q I q
  conv at q=>whnf
  obtain⟨hc,q⟩:=q
  split at q
  .obtain⟨h0,q⟩:=q;cases es' with
   |nil=>
    cases es with
    |nil=>exact absurd q.1 (by decide)
    |cons _ _=>cases(show false=true from h3)
   |cons e0 er=>
    have PAs:=oy es g h3;obtain⟨ns,x0,xr,rfl,h4⟩:=aM h3;exact oM (g.tab.ini0 c h0) hg hm PAs hdb (aa ns) (az h4 _ _) Y s U H Q I q
  .rename_i f hf;obtain⟨⟨d,hd⟩,hmk⟩:=g.tab.ini c f hf;obtain⟨fd,F,B⟩:=(g.fns f d hd).fact;obtain⟨ds,hb,hv⟩:∃ ds,Binds X.K fd d.ps ds/\Vals (dflt G f (es.len+1)) ds:=by
    unfold dflt;rw[hd];exact B _
   have hr:=g.room hc
   split at q
   .rename_i hx;rw[if_pos hx]at hmk;cases es' with
    |nil=>
     cases es with
     |nil=>exact m8 hmk F hr hg hm hb hv g.pass hdb Y s U H Q I q
     |cons _ _=>cases(show false=true from h3)
    |cons e0 er=>
     have PAs:=oy es g h3;obtain⟨ns,x0,xr,rfl,h4⟩:=aM h3;exact rH hmk F hr hg hm hb hv g.pass PAs hdb (aa ns) (az h4 _ _) Y s U H Q I q
   .rename_i hx;rw[if_neg hx]at hmk;cases es' with
    |nil=>
     cases es with
     |nil=>exact qZ hmk F hr hg hm hb hv g.pass hdb Y s U H Q I q
     |cons _ _=>cases(show false=true from h3)
    |cons e0 er=>
     have PAs:=oy es g h3;obtain⟨ns,x0,xr,rfl,h4⟩:=aM h3;exact sx hmk F hr hg hm hb hv g.pass PAs hdb (aa ns) (az h4 _ _) Y s U H Q I q
 | .bini es,X,S,E,g,e,h=>by
  sleep 4
  rename_i es' pos _ mm p2 _ xn p1 _;simp only[lw,decide_eq_true_eq]at h;obtain⟨⟨⟨⟨⟨h1,rfl⟩,h2⟩,h3⟩,h4⟩,h5⟩:=h;obtain⟨hg,hdb⟩:=g.glob h1;obtain⟨B,hm,hB⟩:=g.tab.gbi _ (g.hT▸h2);cases es' with
  |nil=>
   cases es with
   |nil=>cases h4
   |cons _ _=>cases(show false=true from h3)
  |cons e0 er=>
   have PAs:=oy es g h3;obtain⟨ns,x0,xr,rfl,h7⟩:=aM h3;refine PE.imp (xx hB hg hm (PA.bL PAs) hdb (aa ns) (az h7 _ _) (gX (o:=.Name _ _) rfl (lL h3 (by rw[h4];decide) _ _) h5)) λU H Q q=>⟨_,q,λvs H1 z=>?_⟩
   obtain⟨a,i,dx,fs,fr,v,ev,ea,hi,q⟩:=z;exact⟨a,_,dx,fs,fr,v,ev,ea,(g.tab.xc i hi).1,q⟩
 | .cini c es,X,S,E,g,e,h=>by cases(show false=true from h)
 | .bf b es,X,S,E,g,e,h=>by
  sleep 3
  rename_i es' pos _ xn p1 _;simp only[lw,decide_eq_true_eq]at h;obtain⟨⟨⟨⟨h1,rfl⟩,h2⟩,h3⟩,h4⟩:=h;obtain⟨hg,hdb⟩:=g.glob h1;obtain⟨hm,hn⟩:=g.tab.gbl _ (g.hT▸h2);cases es' with
  |nil=>
   cases es with
   |nil=>exact absurd h4 (by decide)
   |cons _ _=>cases(show false=true from h3)
  |cons e0 er=>
   have PAs:=oy es g h3;obtain⟨ns,x0,xr,rfl,h7⟩:=aM h3;have hb:=t6 b;have hk:=zD g b;have key:∀ {v:Value},pA b=v->(∃ i,v=.builtin i)\/(∃ i,v=.type i):=by
    intro v hv;subst hv;cases b<;>first|exact .inl ⟨_,rfl⟩|exact .inr ⟨_,rfl⟩
   rcases key rfl with⟨i,hi⟩|⟨i,hi⟩
   .rw[hi]at hb hk;exact gc hk hg hm hb PAs hn hdb (aa ns) (az h7 _ _)
   .rw[hi]at hb hk;exact og hk hg hm hb PAs hn hdb (aa ns) (az h7 _ _)
 | .isi a c,X,S,E,g,e,h=>by
  sleep 4
  rename_i pos _ xn p1 _ _ a' c';simp only[lw,decide_eq_true_eq]at h;obtain⟨⟨⟨⟨h1,rfl⟩,h2⟩,h3⟩,h4⟩:=h;obtain⟨hg,hdb⟩:=g.glob h1;obtain⟨hm,hn⟩:=g.tab.gbl _ (g.hT▸h2);have n1:notStar a'=true:=by
   cases a'<;>first|rfl|(cases a<;>cases(show false=true from h3))
  have n2:notStar c'=true:=by
   cases c'<;>first|rfl|(cases c<;>simp[sr]at h4)
  refine PE.imp (gc (wx g c) hg hm qd (iM (PE.bL (sE a g h3)) (iM (Af g h4) c8 n2) n1) hn hdb (aa n1) ?_) λU H Q q=>⟨_,q,λx H1 z=>⟨x,rfl,z⟩⟩
  rw[aa n2]
  rfl
 | .lc elt sel it,X,S,E,g,e,h=>by
  sleep 2
  split at h
  iterate 3 (split at h;rotate_left;cases h)
  simp only[lw]at h;obtain⟨⟨⟨h1,h2⟩,h3⟩,h4⟩:=h;intro Y s U H Q I q;obtain⟨hc,q⟩:=(show G.cm=true/\wI G it U H (λJ H1=>pF (λσ' H' Q'=>wE G elt σ' H' Q' (λ_ _=>False)) J (none::dA U sel) H1 Q) (E U) from q);rw[qr]at q;obtain⟨cl,C⟩:=a9 g I.ok h1;exact qo (g.cm hc) C (sI it g h2) (λs H fp=>sE elt (g.comp C s H fp) h3) (aR h4 _) Y s U H Q I q
 | .lci elt c sel it,X,S,E,g,e,h=>by
  sleep 2
  split at h
  iterate 3 (split at h;rotate_left;cases h)
  simp only[lw]at h;obtain⟨⟨⟨⟨h1,h2⟩,h3⟩,h5⟩,h4⟩:=h;intro Y s U H Q I q;obtain⟨hc,q⟩:=(show G.cm=true/\wI G it U H (λJ H1=>wY (λσ' H' Q'=>wT G c σ' H' Q' (λ_ _=>False)) (λσ' H' Q'=>wE G elt σ' H' Q' (λ_ _=>False)) J (none::dA U sel) H1 Q) (E U) from q);rw[rf]at q;obtain⟨cl,C⟩:=a9 g I.ok h1;exact hG (g.cm hc) C (sI it g h2) (λs H fp=>iy C) (λs H fp=>mF (sT c (g.comp C s H fp) h5)) (λs H fp=>sE elt (g.comp C s H fp) h3) (aR h4 _) Y s U H Q I q
 | .lct elt n sel it,X,S,E,g,e,h=>by cases(show false=true from h)
 | .lcu elt c n sel it,X,S,E,g,e,h=>by cases(show false=true from h)
 | .dnew,X,S,E,g,e,h=>by
  sleep 3
  refine PE.imp rp λU H Q q=>?_
  have q':newD H Q:=q;unfold newD at q';exact q'
 | .sm m a b,X,S,E,g,e,h=>by
  sleep 4
  simp only[lw,decide_eq_true_eq]at h;obtain⟨⟨⟨⟨⟨ha,rfl⟩,hb⟩,hn⟩,h4⟩,h5⟩:=h;exact PE.imp (o7 PySem.F.plainAttrs_str (t9 m) (zG m) (Al m) (PE.bL (sE a g ha)) (iM (PE.bL (sE b g hb)) c8 hn) (aG h4 _ _ _) (mf hb hn _ _) h5 (aa hn) rfl) λU H Q q=>⟨_,q,λx H1 z=>by
   obtain⟨z,rfl,q⟩:=z;exact⟨rfl,_,q,λy H2 q=>⟨z,y,rfl,rfl,g.hK▸q⟩⟩⟩
 | .up a,X,S,E,g,e,h=>by cases(show false=true from h)
 | .isiT a cs,X,S,E,g,e,h=>by
  sleep 5
  rename_i pos _ xn p1 _ _ a' _ es' kk pos2;simp only[lw,decide_eq_true_eq]at h;obtain⟨⟨⟨⟨⟨h1,rfl⟩,h2⟩,h3⟩,h4⟩,h5⟩:=h;obtain⟨hg,hdb⟩:=g.glob h1;obtain⟨hm,hn⟩:=g.tab.gbl _ (g.hT▸h2);have n1:notStar a'=true:=by
   cases a'<;>first|rfl|(cases a<;>cases(show false=true from h3))
  refine PE.imp (gc (tK g cs) hg hm qd (iM (PE.bL (sE a g h3)) (iM (qK (qB g h4)) c8 rfl) n1) hn hdb (aa n1) ?_) λU H Q q=>⟨_,q,λx H1 z=>⟨?_,λp hp=>⟨x,p,rfl,?_,z p hp⟩⟩⟩
  .rw[aa (show notStar (.Tuple es' kk pos2)=true from rfl)]
   rfl
  .exact eY (by rw[ce];omega)
  .rw[ah,List.map_map]
   rfl
 | .mk0 c,X,S,E,g,e,h=>by
  sleep 4
  simp only[lw,decide_eq_true_eq]at h;obtain⟨⟨h1,h2⟩,h3⟩:=h;obtain⟨hg,hdb⟩:=g.glob h1;refine PE.imp (pB (g.tab.inip c (g.hT▸h3)) hg (g.tab.gcl _ _ (g.hT▸h2)) hdb) λU H Q q=>?_
  have q':pU (G.R.cad c) H Q:=q;unfold pU at q';exact q'
 | .vals tp a,X,S,E,g,e,h=>by cases(show false=true from h)
 | .disp ks es,X,S,E,g,e,h=>by cases(show false=true from h)
 | .dzip a b,X,S,E,g,e,h=>by cases(show false=true from h)
termination_by structural x=>x
theorem sI:∀ (x:u0){X:Cx}{S:Sn}{E:St->XK},Gd X G S k E->∀ {t e:Expr},mI S x t e=true->PI X t e (λU H R=>wI G x U H R (E U))
 | .rng1 a,X,S,E,g,t,e,h=>by
  sleep 4
  simp only[lw,decide_eq_true_eq]at h;obtain⟨⟨⟨⟨h1,rfl⟩,h2⟩,h3⟩,n1⟩:=h;obtain⟨hg,hdb⟩:=g.glob h1;obtain⟨hm,hn⟩:=g.tab.gbl _ (g.hT▸h2);intro Y s U H R I q;refine nW hg hm (iM (PE.bL (sE a g h3)) c8 n1) (aa n1) Y s U H R I ⟨_,q,λx H1 z=>?_⟩
  split at z
  .exact⟨_,rfl,z.1,z.2.1,z.2.2⟩
  .exact z.elim
 | .rng2 a b,X,S,E,g,t,e,h=>by cases(show false=true from h)
 | .rng3 a b c,X,S,E,g,t,e,h=>by cases(show false=true from h)
 | .enm a,X,S,E,g,t,e,h=>by cases(show false=true from h)
 | .enf a,X,S,E,g,t,e,h=>by cases(show false=true from h)
 | .seq a,X,S,E,g,t,e,h=>by
  conv at h=>lhs;whnf
  intro Y s U H R I q;have q':wE G a U H (λx H1=>match x with| .ref p=>iO G.R.K p H1 R| .str z=>R (vh z) H1|_=>False) (E U):=q;rw[g.hK]at q';refine ar (sE a g h Y s U H _ I q') λv s1 ⟨x,H1,I1,r1,z⟩=>?_
  dsimp only at z
  split at z
  .unfold iO at z;rcases z with⟨⟨xs,hx⟩,z⟩|⟨⟨xs,hx⟩,z⟩|⟨kvs,hx,z⟩|⟨o,kvs,hx,z⟩
   .exact nQ I1 r1 hx z
   .exact rV I1 r1 hx z
   .exact ng I1 r1 hx z
   .exact ji I1 r1 hx z
  .exact rG I1 r1 z
  .exact z.elim
 | .zip a b,X,S,E,g,t,e,h=>by cases(show false=true from h)
 | .zip3 a b c,X,S,E,g,t,e,h=>by cases(show false=true from h)
termination_by structural x=>x
theorem sO:∀ (x:As){X:Cx}{S:Sn}{E:St->XK},Gd X G S k E->∀ {e:Option Expr},mO S x e=true->PO X e (λU H Q=>wO G x U H Q (E U))
 | .no,X,S,E,g,none,h=>ui
 | .no,X,S,E,g,some _,h=>by cases(show false=true from h)
 | .yes x,X,S,E,g,none,h=>by cases(show false=true from h)
 | .yes x,X,S,E,g,some e,h=>by
  conv at h=>lhs;whnf
  intro Y s U H Q I q;refine uz (PE.bL (sE x g h)) Y s U H Q I ⟨_,q,λy H1 z=>?_⟩
  split at z
  .exact⟨_,rfl,z⟩
  .exact z.elim
termination_by structural x=>x
theorem sT:∀ (x:Tx){X:Cx}{S:Sn}{E:St->XK},Gd X G S k E->∀ {e:Expr},mT S x e=true->PT X e (λU H Q=>wT G x U H Q (E U))
 | .not a,X,S,E,g,e,h=>by
  sleep 2
  exact yf (sT a g h)
 | .and a b,X,S,E,g,e,h=>by
  sleep 3
  simp only[lw]at h;exact PT.imp (w9 (PT.bL (sT a g h.1)) (qz (sT b g h.2))).pt λU H Q q=>⟨_,q,λk H1 z=>by rwa [cp]at z⟩
 | .or a b,X,S,E,g,e,h=>by
  sleep 3
  simp only[lw]at h;exact PT.imp (yz (PT.bL (sT a g h.1)) (qG (sT b g h.2))).pt λU H Q q=>⟨_,q,λk H1 z=>by rwa [cp]at z⟩
 | .cmp op a b,X,S,E,g,e,h=>by
  sleep 3
  simp only[lw,decide_eq_true_eq]at h;obtain⟨⟨⟨rfl,ha⟩,hb⟩,hn⟩:=h;refine PT.imp (ue (bp.bL (g.cmp op)) (PE.bL (sE a g ha)) (PE.bL (sE b g hb)) (cA hn _)) λU H Q q=>⟨_,q,λx H1 q1=>⟨_,q1,λy H2 q2=>⟨_,q2,λz H3 q3=>?_⟩⟩⟩
  split at q3
  .exact⟨_,rfl,q3⟩
  .exact q3.elim
 | .cmp2 o1 o2 a b c,X,S,E,g,e,h=>by
  sleep 3
  simp only[lw,decide_eq_true_eq]at h;obtain⟨⟨⟨⟨⟨rfl,rfl⟩,ha⟩,hb⟩,hc⟩,hn⟩:=h;refine PT.imp (pC (bp.bL (g.cmp o1)) (bp.bL (g.cmp o2)) (PE.bL (sE a g ha)) (PE.bL (sE b g hb)) (PE.bL (sE c g hc)) (fS hn)) λU H Q q=>⟨_,q,λx H1 q1=>⟨_,q1,λy H2 q2=>⟨_,q2,λz H3 q3=>?_⟩⟩⟩
  split at q3
  .refine⟨_,rfl,?_⟩;rw[cp]at q3
   split at q3
   .rename_i hk;rw[if_pos hk];refine⟨_,q3,λw H4 q4=>⟨_,q4,λz H5 q5=>?_⟩⟩
    split at q5
    .exact⟨_,rfl,q5⟩
    .exact q5.elim
   .rename_i hk;rw[if_neg hk];exact⟨_,rfl,q3⟩
  .exact q3.elim
 | .val x,X,S,E,g,e,h=>by
  have h:(mE S x e&&plainT e)=true:=h;simp only[lw]at h;refine PT.imp (pX (PE.bL (sE x g h.1)) (plainT_ok h.2 _)) λU H Q q=>⟨_,q,λy H1 z=>?_⟩
  exact g.hK▸xg z
termination_by structural x=>x
theorem Ck:∀ (x:dm){X:Cx}{S:Sn}{E:St->XK},Gd X G S k E->∀ {ks:List Str}{keys:List (Option Expr)}{e:List Expr}{pos:Pos},nU ks keys=true->gp S x e=true->x.len=ks.length->PQ X pos keys e (λU H R=>∃ Q,wEs G x U H Q (E U)/\∀ xs H1,xs.length=x.len->Q xs H1->R (B2 ks xs) H1)
 | .nil,X,S,E,g,ks,keys,[],pos,h1,h,hl=>by
  obtain rfl:ks=[]:=List.eq_nil_of_length_eq_zero hl.symm;rw[qt h1];exact λY s U H R I ⟨Q,q,i⟩=>wC Y s U H R I (i [] H rfl q)
 | .nil,X,S,E,g,_,_,_::_,pos,h1,h,hl=>by cases(show false=true from h)
 | .cons x xs,X,S,E,g,_,_,[],pos,h1,h,hl=>by cases(show false=true from h)
 | .cons x xs,X,S,E,g,[],keys,e::es,pos,h1,h,hl=>by cases hl
 | .cons x xs,X,S,E,g,c::ks,keys,e::es,pos,h1,h,hl=>by
  have h:(mE S x e&&notStar e&&gp S xs es)=true:=h;simp only[lw]at h;obtain⟨j,p,r,rfl,h2⟩:=n5 h1;intro Y s U H R I ⟨Q,q,i⟩;refine uO o5 (PE.bL (sE x g h.1.1)) (Ck xs g h2 h.2 (Nat.succ.inj hl)) Y s U H R I ?_;exact⟨_,q,λy H2 z=>⟨_,z,λys H3 hy w=>i (y::ys) H3 (congrArg Nat.succ hy) w⟩⟩
termination_by structural x=>x
theorem oy:∀ (x:dm){X:Cx}{S:Sn}{E:St->XK},Gd X G S k E->∀ {e:List Expr},gp S x e=true->PA X e (λU H Q=>wEs G x U H Q (E U))
 | .nil,X,S,E,g,[],h=>c8
 | .nil,X,S,E,g,_::_,h=>by cases(show false=true from h)
 | .cons x xs,X,S,E,g,[],h=>by cases(show false=true from h)
 | .cons x xs,X,S,E,g,e::es,h=>by
  have h:(mE S x e&&notStar e&&gp S xs es)=true:=h;simp only[lw]at h;exact iM (sE x g h.1.1) (oy xs g h.2) h.1.2
termination_by structural x=>x
end
end
end L3
namespace L2
open PySem PySem.Spec PyProof.Rows
variable {scope:Scope}{cl:List (Str×Addr)}{fr:List Str}{sel:List Nat}{s:Shared}
section
variable {X:Cx}
def c9 {elt iter tgt:Expr}{ifs:List Expr}{xs:List Str}{y:Str}{py pos spos:Pos}{wi:TI}{tg:TG}{tc:TT}{te:TE}{ni:Nat}(hc:X.calm=true)(S:aI X scope cl xs fr sel)(hi:PI X tgt iter wi)
  (hg:∀ (s:Shared) (H:Hp) (fp:List Addr),PG (c6 X scope cl (xs++fr) s H fp) tgt tg) (ht:∀ (s:Shared) (H:Hp) (fp:List Addr),Ao (c6 X scope cl (xs++fr) s H fp) ifs tc)
  (he:∀ (s:Shared) (H:Hp) (fp:List Addr),PE (c6 X scope cl (xs++fr) s H fp) elt te) (hs:∀ x,foldedSetIterable iter X.env x=pure x) (hN:X.N.Nodup) (hni:X.N[ni]? =some y) (hy:X.env.scope.names.lookup y=some .local)
  (hsw:swapsWith (.ListComp elt [⟨tgt,iter,ifs,0⟩] scope pos) (some (.Name y py)) spos.line X.env=pure true):PS X (.Assign [.Name y py] (.ListComp elt [⟨tgt,iter,ifs,0⟩] scope pos) spos) (λD U H=>yC wi tg tc te xs sel U H λv H1=>D.nx (U.set ni (some v)) H1):=by
 intro Y s U H DD I h;rw[exec_Assign_Name_used _ _ _ _ hsw];refine ad (wpAny_standAt (ad ?_));show wpAny _ _ (do let _ <-comprehension (.ListComp elt [⟨tgt,iter,ifs,0⟩] scope pos) scope X.env _ (newList []) false (eval iter X.env) (some (assign (.Name y py) X.env))) _ _ s;refine ad (wpAny_mono (wpAny_comprehension_free (use:=some (assign (.Name y py) X.env)) (Q:=λ_ s'=>SP X Y DD .next s') rfl hs S.clos S.kind S.names ?_) (λ_ s' hq=>am (am hq)) λ_ _ e=>e);refine ar (hi Y s U H _ I h) λv s1 h1=>ar h1 λitv s2 h2=>?_
 obtain⟨it,fp,tn,J,H2,e,I2,T,lQ,f2,h2⟩:=h2;subst e;refine wpAny_newObj_type ?_;have hD:H2 s2.heap.objs.size=none:=I2.hok.fresh (ol _);have I3:Inv X Y U (upd H2 s2.heap.objs.size (.lst [])) { s2 with heap:=s2.heap.push { cls:=.type "list",dict:=none,data:=.seq ([]:List Value).toArray } }:=
  I2.laid (t':=s2.toks) (λb u e=>sn _ e) (ol _) ⟨Nat.zero_le _,[],0,.nil,sw _ rfl⟩
 have fo2:∀ b ∈ fp,b<s2.heap.objs.size:=λb hb=>by
  obtain⟨o,ho,_⟩:=T.obj _ _ lQ b hb;exact ss ho
 have f3:∀ b ∈ fp,gj X Y (upd H2 s2.heap.objs.size (.lst [])) b:=λb hb=>⟨by rw[af (nw (fo2 b hb))];exact(f2 b hb).1,(f2 b hb).2⟩
 have st3:tn 0 (s2.heap.push { cls:=.type "list",dict:=none,data:=.seq ([]:List Value).toArray }):=T.keep _ _ _ lQ λb hb o e=>sn _ e
 have fo3:∀ b ∈ fp,b<(s2.heap.push { cls:=.type "list",dict:=none,data:=.seq ([]:List Value).toArray }).objs.size:=λb hb=>by
  rw[Heap.size_push];exact Nat.lt_succ_of_lt (fo2 b hb)
 obtain⟨W,⟨m0,w0⟩,turn⟩:=h2 _ hD;generalize s2.heap.objs.size=D at*;generalize hs3:({ s2 with heap:=s2.heap.push { cls:=.type "list",dict:=none,data:=.seq ([]:List Value).toArray } }:Shared)=s3 at*;have st3':tn 0 s3.heap:=by rw[<-hs3];exact st3
 have fo3':∀ b ∈ fp,b<s3.heap.objs.size:=by rw[<-hs3];exact fo3
 refine wpAny_newFunctionEnv S.nocell (by intro y hy;simp at hy) (λh' hns hsb=>?_) S.kind;have keep:∀ b o,s3.heap.get? b=some o->h'.get? b=some o:=λb o e=>(hsb.2 b (nw (ss e))).trans (sn _ e)
 have I4:=jh (tk:=s3.toks+([]:List (Str×Value)).length) S I3 f3 fo3' hns keep;have st4:tn 0 h':=T.keep _ _ _ st3' λb hb o e=>keep b o e
 have stat:∀ {H':Hp},(∀ b ∈ fp,H' b=none)->∀ b ∈ fp,gj (c6 X scope cl (xs++fr) s3 (upd H2 D (.lst [])) fp) (X.pn++Y) H' b:=λ{H'} hn b hb=>
  ⟨hn b hb,nw (fo3' b hb),λz=>(lv.mp (I3.d9 b z)).elim (f3 b hb).2.1 (f3 b hb).2.2.1,.inl hb,λy c hy=>(f3 b hb).2.2.2.2.1 y c (S.sub y c hy),λp hp=>(f3 b hb).2.2.2.2.2 p (by simpa[c6] using hp)⟩
 have loop:codeAny (model X.prog X.w) X.A (.compLoop (.ListComp elt [⟨tgt,iter,ifs,0⟩] scope pos) 0 (.ref it) (.ref D) (compEnvC scope cl s3.heap.objs.size X.env))
   (compPost (model X.prog X.w) X.A X.xe (some (assign (.Name y py) X.env)) (λ_ s'=>SP X Y DD .next s') (.ref D) s3.heap.objs.size) { s3 with heap:=h',toks:=s3.toks+([]:List (Str×Value)).length }:=by
  refine codeAny_loop rfl (λn s'=>∃ i σ' H',Inv (c6 X scope cl (xs++fr) s3 (upd H2 D (.lst [])) fp) (X.pn++Y) σ' H' s'/\tn i s'.heap/\(∀ b ∈ fp,H' b=none)/\W i n σ' H') (λn s5 hI=>?_) m0 ⟨0,_,_,I4,st4,λb hb=>(f3 b hb).1,w0⟩;show wpAny _ _ ((compTurn (.ListComp elt [⟨tgt,iter,ifs,0⟩] scope pos) 0 (.ref it) (.ref D) (compEnvC scope cl s3.heap.objs.size X.env)).onRaise (λx=>do noteFrame x (compEnvC scope cl s3.heap.objs.size X.env);theTreesLotGoes x)) _ _ s5;refine wpAny_noted ?_;refine mM (ht s3 (upd H2 D (.lst [])) fp).1 ?_;obtain⟨i,σ5,H5,I5,st5,fr5,w5⟩:=hI;rcases turn i n σ5 H5 w5 with⟨stop,q⟩|⟨go,Nn,hNn,step⟩
  .refine ar (T.done (c6 X scope cl (xs++fr) s3 (upd H2 D (.lst [])) fp) rfl rfl rfl hc i _ s5 σ5 H5 _ I5 (stat fr5) st5 stop) λr s6 ⟨hr,I6⟩=>?_
   subst hr;obtain⟨m,hn,_⟩:=I6.loc;have J:Inv X Y U H5 s6:=I3.qq (ch:=fp) I6.os I6.base I6.hok I6.bare λb hb=>⟨(f3 b hb).2.2.2.1,(f3 b hb).2.1,(f3 b hb).2.2.2.2.1,(f3 b hb).2.2.2.2.2⟩
   have fC:H5 s3.heap.objs.size=none:=I6.free;have nL:s3.heap.objs.size≠X.env.locals:=Ne.symm (nw I3.lt);have nC:∀ z c,X.env.cells.lookup z=some c->c≠s3.heap.objs.size:=λz c e=>by
    obtain⟨v,o,ho,_⟩:=I3.cell z c e;exact nw (ss ho)
   show wpAny _ _ (assign (.Name y py) X.env (.ref D)) _ _ s6;refine wpAny_assign_Name (gR J hN hni (.inl hy) (v:=.ref D) rfl (λs7 J7 hsb=>?_) (.inr hy));obtain⟨a,sb,ha⟩:=hsb;have hne:s3.heap.objs.size≠a:=by
    rcases ha with ha|ha
    .rw[ha];exact nL
    .exact Ne.symm (nC _ _ ha)
   refine⟨m,hn.sameBut sb hne,λh'' hs''=>⟨_,H5,?_,q⟩⟩;exact J7.turned (h':=h'') (t':=s7.toks) (it:=s3.heap.objs.size) (λb o hb e=>(hs''.2 b hb).trans e) fC nL (.inr I3.sz) nC λp hp=>nw (ss (I3.pin p hp).1)
  .have fin:∀ {σ8:St}{H10:Hp}{s10:Shared},Inv (c6 X scope cl (xs++fr) s3 (upd H2 D (.lst [])) fp) (X.pn++Y) σ8 H10 s10/\tn (i+1) s10.heap/\(∀ b ∈ fp,H10 b=none)->Nn σ8 H10->∃ m',m'<n/\∃ i σ' H',Inv (c6 X scope cl (xs++fr) s3 (upd H2 D (.lst [])) fp) (X.pn++Y) σ' H' s10/\tn i s10.heap/\(∀ b ∈ fp,H' b=none)/\W i m' σ' H':=λ⟨I,t,f⟩ nn=>by
    obtain⟨m',hm,w10⟩:=hNn _ _ nn;exact⟨m',hm,i+1,_,_,I,t,f,w10⟩
   refine ar (T.item (c6 X scope cl (xs++fr) s3 (upd H2 D (.lst [])) fp) rfl rfl rfl hc i _ s5 σ5 H5 _ I5 (stat fr5) st5 go) λr s6 ⟨u,hr,h6⟩=>?_
   subst hr;refine ar h6 λ_ s7 ⟨xv,H7,I7,r7,y7,st7,fr7⟩=>?_
   have I7':=I7.pinned (stat fr7) (T.obj _ _ st7);refine vd (hg s3 _ fp _ s7 σ5 H7 xv u _ I7' r7 (step xv _ y7)) λ_ s8 ⟨σ8,H8,I8,q8⟩=>?_
   refine vd ((ht s3 _ fp).2 _ s8 σ8 H8 _ I8 q8) λok s9 ⟨H9,I9,q9⟩=>?_
   have back:∀ {H10:Hp}{s10:Shared},Inv (c6 X scope cl (xs++fr) s3 (upd H2 D (.lst [])) fp) _ σ8 H10 s10->Inv (c6 X scope cl (xs++fr) s3 (upd H2 D (.lst [])) fp) (X.pn++Y) σ8 H10 s10/\tn (i+1) s10.heap/\(∀ b ∈ fp,H10 b=none):=λ{H10 s10} I10=>⟨I10.cq,T.keep _ _ _ st7 λb hb o e=>(I10.pin (b,o) (ii _ (ii _ (aQ hb e)))).1,λb hb=>by
    obtain⟨o,e,d⟩:=T.obj _ _ st7 b hb;exact(I10.pin (b,o) (ii _ (ii _ (aQ hb e)))).2.1⟩
   refine⟨λek=>?_,λek=>am ⟨rfl,fin (back I9) (q9.2 ek)⟩⟩;refine vd (he s3 _ fp _ s9 _ _ _ I9 (q9.1 ek)) λuv s10 ⟨vv,H10,I10,r10,zs,hz,hzl,n10⟩=>?_
   refine vd (eg (X:=c6 X scope cl (xs++fr) s3 (upd H2 D (.lst [])) fp) _ s10 _ H10 (.ref D) [vv] (.ref D) [uv] (λ_ H'=>H'=upd H10 D (.lst (zs++[vv]))) I10 rfl (.cons r10 .nil) ⟨D,zs,vv,rfl,rfl,hz,hzl,rfl⟩) λ_ s11 ⟨_,H11,I11,_,e11⟩=>?_
   subst e11;exact am ⟨rfl,fin (back I11) n10⟩
 exact codeAny_compStart_list loop (T.self _ 0 _ _ _ st4 loop)
def nc {elt iter:Expr}{x y:Str}{px py pos spos:Pos}{wi:TI}{te:TE}{ni:Nat}(hc:X.calm=true)(S:aI X scope cl [x] fr sel)(hi:PI X (.Name x px) iter wi)
  (he:∀ (s:Shared) (H:Hp) (fp:List Addr),PE (c6 X scope cl (x::fr) s H fp) elt te) (hs:∀ x,foldedSetIterable iter X.env x=pure x) (hN:X.N.Nodup) (hni:X.N[ni]? =some y) (hy:X.env.scope.names.lookup y=some .local)
  (hsw:swapsWith (.ListComp elt [⟨.Name x px,iter,[],0⟩] scope pos) (some (.Name y py)) spos.line X.env=pure true):PS X (.Assign [.Name y py] (.ListComp elt [⟨.Name x px,iter,[],0⟩] scope pos) spos) (λD U H=>BO wi te sel U H λv H1=>D.nx (U.set ni (some v)) H1):=λY s U H D I h=>
 c9 hc S hi.up (λs H fp=>iy S) (λ_ _ _=>iH) he hs hN hni hy hsw Y s U H D I ⟨_,h,λ_ _ q=>q.g⟩
section
variable {prog:Program}{w:World}{A:Around}{E:CC}
def hE {it t:Addr}{items:Array Value}(hne:t≠it):∀ (n i:Nat) (s:Shared) (Q:List Value->Shared->Prop),s.heap.IsListIter it t i->s.heap.IsList t items->i+n<=items.size->
  (∀ h',h'.IsListIter it t (i+n)->Heap.SameBut it s.heap h'->Q ((items.toList.drop i).take n) { s with heap:=h' })->wpAny (model prog w) A (draw (.ref it) n) Q E s
 |0,i,s,Q,hit,_,_,hQ=>by
  show wpAny _ _ (pure []) Q E s;exact am (by simpa using hQ s.heap hit (Heap.SameBut.refl ..))
 |n+1,i,s,Q,hit,ht,hle,hQ=>by
  have hlt:i<items.size:=by omega
  show wpAny _ _ (pyNext (.ref it) >>= _) Q E s;refine ad (wpAny_pyNext_list_item hit ht (x:=items[i]) (by simp[hlt]) λh₁ hit₁ hs₁=>?_);refine ad (bd (hE hne n (i+1) _ _ hit₁ (ht.extBut hs₁.extBut hne) nofun λh₂ hit₂ hs₂=>am ?_));have hd:items.toList.drop i=items[i]::items.toList.drop (i+1):=by simp[List.drop_eq_getElem_cons,hlt]
  have:=hQ h₂ (by rw[show i+(n+1)=i+1+n by omega];exact hit₂) (hs₁.trans hs₂);rw[hd,List.take_succ_cons]at this;exact this
def d8 {t:Addr}{items:Array Value}{Q:List Value->Shared->Prop}(hh:A.handled=none)(ht:s.heap.IsList t items)(hty:s.TypeIs (.ref t) "list")
  (hQ:∀ h',Heap.ExtBut s.heap.objs.size s.heap h'->Q items.toList { s with heap:=h' }):wpAny (model prog w) A (unpackItems (.ref t) items.size none) Q E s:=by
 have hlt:t≠s.heap.objs.size:=by obtain⟨o,ho,_⟩:=id ht;exact nw (ss ho)
 unfold unpackItems;refine ad ?_
 .unfold notIterableAtAll;refine ad (wpAny_specialOf hty PySem.F.slot_list_iter.lookup ?_);refine am ?_;simp only[Bool.false_eq_true,if_false];refine ad (bd (wpAny_pyIter_list ht ?_));refine ad (bd (hE hlt items.size 0 _ _ ⟨_,sw _ rfl,rfl,rfl⟩ (ht.push _) nofun λh₁ hit₁ hs₁=>?_));have hall:List.take items.size (List.drop 0 items.toList)=items.toList:=by
   rw[drop_zero];exact take_of_length_le (by simp)
  rw[hall];rw[if_neg (by simp)];have ht₁:h₁.IsList t items:=(ht.push _).extBut hs₁.extBut hlt;refine ad (bd (wpAny_pyNext_list_end hh hit₁ ht₁ (by simp) λh₂ he₂=>?_));simp only[Option.isSome_none,Bool.false_eq_true,if_false];refine am (hQ h₂ λb o hb e=>he₂ b o hb (hs₁.extBut b o hb (sn _ e)))
end
def wZ {es:List Expr}{k:Nat}{pos:Pos}{t:sM}{n:Nat}(hc:X.calm=true)(h:vJ X es t)
  (hn:(assignEach es X.env).length=n) (hst:(assignEach es X.env).findIdx? (·.1)=none){Y:CD}{U:St}{H:Hp}{a:Addr}{u:Value}{xs:List V}{Q:St->Hp->Prop}(I:Inv X Y U H s) (r:RelV (.ref a) u)
  (hq:aA X.K H a xs) (hl:xs.length=n) (hw:t xs U H Q):wpAny (model X.prog X.w) X.A (assign (.Tuple es k pos) X.env u) (λ_ s'=>∃ σ' H',Inv X Y σ' H' s'/\Q σ' H') X.xe s:=by
 cases r;obtain⟨its,rv,p,hz⟩:=I.list hq;rw[assign_Tuple];refine ad (wpAny_standAt ?_);unfold unpack;have e1:(assignEach es X.env).length=its.toArray.size:=by
  rw[hn,<-hl];simp[rv.length]
 rw[e1,hst];refine ad (bd (d8 (I.ok.hd hc) p.isList p.isList.typeIs λh' hx=>?_));have I1:Inv X Y U H { s with heap:=h' }:=I.kept (t':=s.toks) λb o e=>hx b o (nw (ss e)) e
 exact h Y _ U H xs _ Q I1 (by simpa using rv) hw
end
end L2
namespace L3
open PySem PySem.Spec L2
set_option maxHeartbeats 2000000
abbrev pe (S:Sn):List Nat->List Expr->Bool
 | [],[]=>true
 |i::is,.Name x _::r=>S.loc i x&&pe S is r
 |_,_=>false
abbrev BS (S:Sn):Ap->Expr->Bool
 | .nm i,e=>match e with| .Name x _=>S.loc i x|_=>false
 | .tp is,e=>match e with| .Tuple ts _ _=>pe S is ts|_=>false
 | .nt i is,e=>match e with| .Tuple y1 _ _=>(match y1 with| [y2,y3]=>(match y2 with| .Name x _=>(match y3 with| .Tuple ts _ _=>S.loc i x&&pe S is ts|_=>false)|_=>false)|_=>false)|_=>false
mutual
noncomputable def mS (S:Sn):Sx->Stmt->Bool
 | .asg i e,s=>match s with| .Assign y1 e' _=>(match y1 with| [y2]=>(match y2 with| .Name x _=>S.loc i x&&mE S e e'|_=>false)|_=>false)|_=>false
 | .asgT is e,_=>false
 | .par is es,_=>false
 | .sub o i v,s=>match s with| .Assign y1 v' _=>(match y1 with| [y2]=>(match y2 with| .Subscript o' i' _=>mE S o o'&&mE S i i'&&mE S v v'&&cQ i'|_=>false)|_=>false)|_=>false
 | .fld o f v,s=>match s with| .Assign y1 v' _=>(match y1 with| [y2]=>(match y2 with| .Attribute o' f' _=>mE S o o'&&decide (f=f')&&mE S v v'|_=>false)|_=>false)|_=>false
 | .aug i op e,s=>match s with| .AugAssign y1 op' e' _=>(match y1 with| .Name x _=>S.loc i x&&decide (op=op')&&mE S e e'|_=>false)|_=>false
 | .augS o i op e,s=>match s with| .AugAssign y1 op' e' _=>(match y1 with| .Subscript o' i' _=>mE S o o'&&mE S i i'&&decide (op=op')&&mE S e e'&&cQ i'|_=>false)|_=>false
 | .ret e,s=>match s with| .Return y1 _=>(match y1 with|some e'=>mE S e e'|_=>false)|_=>false
 | .retN,_=>false
 | .pass,_=>false
 | .brk,_=>false
 | .cont,_=>false
 | .expr e,s=>match s with| .Expr e' _=>mE S e e'&&lF e'|_=>false
 | .ife c a b,s=>match s with| .If c' a' b' _=>mT S c c'&&mB S a a'&&mB S b b'|_=>false
 | .whl c b,_=>false
 | .for t it b,s=>match s with| .For t' it' b' y1 _=>(match y1 with| []=>BS S t t'&&mI S it t' it'&&mB S b b'&&bF it'|_=>false)|_=>false
 | .rais e,s=>match s with| .Raise y1 y2 _=>(match y1 with|some e'=>(match y2 with|none=>mE S e e'|_=>false)|_=>false)|_=>false
 | .tryx b hs,_=>false
noncomputable def mB (S:Sn):fV->List Stmt->Bool
 | .nil,l=>l.isEmpty
 | .cons s r,l=>match l with|s'::r'=>mS S s s'&&mB S r r'| []=>false
noncomputable def mH (S:Sn):sq->List ExceptHandler->Bool
 | .nil,l=>l.isEmpty
 | .cons c i b hs,l=>match l with| .ExceptHandler (some (.Name x _)) (some n) (b0::bs) _::r=>S.lj x&&decide (S.T.gcl.lookup x=some c)&&decide (S.N[i]? =some n)&&decide (S.sc.names.lookup n=some .local)&&mB S b (b0::bs)&&mH S hs r|_=>false
end
structure Gs (X:Cx) (G:Gx) (S:Sn) (k:Nat) (E:St->XK):Prop extends Gd X G S k E where
 xok:G.cm=true->Aq X E
 own:PassesOwn (model X.prog X.w) X.A X.env X.xe
 stk:X.stack=X.env::X.outer
 fr:X.env.frame=some X.env.locals
 fn:∀ x,X.fn x=true
variable {p:Pos}{elt:Expr}{gs:List Comprehension}{scope:Scope}
section
variable {X:Cx}{G:Gx}{S:Sn}{k:Nat}{E:St->XK}
def Gs.aK (g:Gs X G S k E)(e:Value):Gs (X.aK e) { G with cm:=false } S k (λ_ _ _=>False) where
 hK:=g.hK
 hT:=g.hT
 sc:=g.sc
 N:=g.N
 nd:=g.nd
 pass:=λY U H s e s' I h=>by
  obtain⟨e,H',C,dx,fs,T,_,_,_,_,_,_,_,_,_,q⟩:=h;exact q.elim
 cm:=λz=>by cases z
 room:=λz=>by cases z
 un:=g.un
 tab:=g.tab
 fns:=g.fns
 xok:=λz=>by cases z
 own:=PassesOwn.never
 stk:=g.stk
 fr:=g.fr
 fn:=g.fn
def gd (env:Env):∀ {is:List Nat}{ts:List Expr},pe S is ts=true->(assignEach ts env).length=is.length/\(assignEach ts env).findIdx? (·.1)=none
 | [],[],_=>⟨rfl,rfl⟩
 | [],_::_,h=>by simp[pe]at h
 |_::_,[],h=>by simp[pe]at h
 |i::is,t::ts,h=>by
  cases t<;>simp[pe]at h
  rename_i x p;obtain⟨h1,h2⟩:=gd env h.2;have e:assignEach (.Name x p::ts) env=(false,assign (.Name x p) env)::assignEach ts env:=rfl;rw[e];refine⟨by simp[h1],?_⟩;rw[List.findIdx?_cons];simp[h2]
def jc (g:Gs X G S k E):∀ {is:List Nat}{ts:List Expr},pe S is ts=true->vJ X ts (gl is)
 | [],[],_=>λY s U H vs us Q I r h=>iP Y s U H vs us Q I r ⟨length_eq_zero_iff.mp h.1,by
   have:=h.2;have e:vs=[]:=length_eq_zero_iff.mp h.1;subst e;exact this⟩
 | [],_::_,h=>by simp[pe]at h
 |_::_,[],h=>by simp[pe]at h
 |i::is,t::ts,h=>by
  cases t<;>simp[pe]at h
  rename_i x p;obtain⟨hi,hx⟩:=g.loc h.1;have h1:PG X (.Name x p) (dn i):=dR (by rw[g.N];exact g.nd) hi hx (.inl (g.fn x));have h2:=jc g h.2;intro Y s U H vs us Q I r q;refine dB h1 h2 rfl Y s U H vs us Q I r ?_;obtain⟨hl,q⟩:=q;cases vs with
  |nil=>simp at hl
  |cons v vs=>exact⟨v,vs,rfl,by simpa using hl,q⟩
def yQ (g:Gs X G S k E)(hc:G.cm=true){t:Ap}{e:Expr}(h:BS S t e=true):PG X e (λv U H Q=>wG U t G.R.K v H λσ1=>Q σ1 H):=by
 cases t with
 |nm i=>
  conv at h=>lhs;whnf
  split at h
  .obtain⟨hi,hx⟩:=g.loc h;exact dR (by rw[g.N];exact g.nd) hi hx (.inl (g.fn _))
  .cases h
 |tp is=>
  conv at h=>lhs;whnf
  split at h
  .intro Y s U H v u Q I r q;obtain⟨a,xs,rfl,hq,hl,q⟩:=q;obtain⟨e1,e2⟩:=gd X.env h;rw[g.hK]at hq;rcases hq with hq|hq
   .exact iV (g.cm hc) (jc g h) e1 e2 Y s U H _ u Q I r ⟨a,xs,rfl,hq,hl,hl,q⟩
   .exact wZ (g.cm hc) (jc g h) e1 e2 I r hq hl ⟨hl,q⟩
  .cases h
 |nt i is=>
  conv at h=>lhs;whnf
  split at h
  .split at h
   .split at h
    .split at h
     .intro Y s U H v u Q I r q;simp only[lw]at h;obtain⟨a,y,b,ys,rfl,hq,hb,hl,q⟩:=q;obtain⟨e1,e2⟩:=gd X.env h.2;obtain⟨hi,hx⟩:=g.loc h.1;rw[g.hK]at hq hb;refine iV (n:=2) (g.cm hc) (dB (dR (by rw[g.N];exact g.nd) hi hx (.inl (g.fn _))) (dB (iV (g.cm hc) (jc g h.2) e1 e2) iP rfl) rfl) rfl rfl Y s U H _ u Q I r ⟨a,_,rfl,hq,rfl,y,_,rfl,.ref b,_,rfl,b,ys,rfl,hb,hl,hl,rfl,q⟩
     .cases h
    .cases h
   .cases h
  .cases h
def oa {e o i:Expr}(n:Nat)(env:Env):swapsWithSole [.Subscript o i p] e n env=pure false:=by
 cases e<;>rfl
def n6 {e o:Expr}{f:Str}(n:Nat)(env:Env):swapsWith e (some (.Attribute o f p)) n env=pure false:=by
 cases e<;>rfl
def kH {e o i:Expr}(env:Env):swappedStores [.Subscript o i p] e env=pure none:=by
 cases e<;>rfl
def lG {o i:Expr}{pos:Pos}{env:Env}(h:cQ i=true):∀ v,assign (.Subscript o i pos) env v=(do
   let ov <-holding [v] (eval o env)
   let iv <-holding [v,ov] (eval i env)
   standAt pos
   holding [v,ov,iv] (setItem ov iv v)
   release [v,ov,iv] []):=by
 intro v;cases i<;>first|rfl|cases h
def t8 {i:Expr}(h:cQ i=true):∀ ov iv new,augStore i ov iv new=(do holding [new,ov,iv] (setItem ov iv new);release [new,ov,iv] [];pure .next):=by
 intro ov iv new;cases i<;>first|rfl|cases h
def uT (op:Operator):zU X op (Aw op):=by
 intro Y s U H x y v u Q I r1 r2 h;unfold Aw at h
 split at h
 .exact vV Y s U H _ _ v u Q I r1 r2 ⟨_,_,rfl,rfl,h⟩
 .exact xk Y s U H _ _ v u Q I r1 r2 ⟨_,_,rfl,rfl,h⟩
 .exact h.elim
def vR (g:Gd X G S k E):wV X (pY G.R.K):=by
 intro Y s U H x y v u Q I r1 r2 h;unfold pY at h;rw[g.hK]at h
 split at h
 .obtain⟨xs,w,h1,h2,h3,q⟩:=h;exact pv Y s U H _ _ v u Q I r1 r2 ⟨_,xs,_,w,rfl,rfl,h1,h2,h3,q⟩
 .exact h.elim
def kI {py:Pos}{y:Str}{n:Nat}{env:Env}(hk:env.scope.kind=.function):∃ b,swapsWith (.ListComp elt gs scope p) (some (.Name y py)) n env=pure b/\(b=true->env.scope.names.lookup y=some .local):=by
 refine⟨_,rfl,λh=>?_⟩;simp only[lw]at h;have:=h.1.1.2;exact beq_iff_eq.mp this
end
set_option maxHeartbeats 2000000
variable {S:Sn}
section
variable {k:Nat}
def zy {x:Ex}(h:mE S x (.ListComp elt gs scope p)=true):(∃ e' sel it y py iter,x=.lc e' sel it/\gs=[⟨.Name y py,iter,[],0⟩]/\
  dc S scope [y] sel=true/\mI S it (.Name y py) iter=true/\mE { S with sc:=bX S.sc scope,N:=y::sel.filterMap λi=>S.N[i]? } e' elt=true/\bF iter=true)\/
  (∃ e' c sel it y py iter c',x=.lci e' c sel it/\gs=[⟨.Name y py,iter,[c'],0⟩]/\
  dc S scope [y] sel=true/\mI S it (.Name y py) iter=true/\mE { S with sc:=bX S.sc scope,N:=y::sel.filterMap λi=>S.N[i]? } e' elt=true/\mT { S with sc:=bX S.sc scope,N:=y::sel.filterMap λi=>S.N[i]? } c c'=true/\bF iter=true)\/
  ∃ e' n sel it ts kt pt iter,x=.lct e' n sel it/\gs=[⟨.Tuple ts kt pt,iter,[],0⟩]/\
  dc S scope (yO ts) sel=true/\se { S with sc:=bX S.sc scope,N:=yO ts++sel.filterMap λi=>S.N[i]? } (List.range n) ts=true/\(yO ts).length=n/\mI S it (.Tuple ts kt pt) iter=true/\mE { S with sc:=bX S.sc scope,N:=yO ts++sel.filterMap λi=>S.N[i]? } e' elt=true/\bF iter=true:=by
 cases x<;>(try (cases(show false=true from h);done))
 all_goals (conv at h=>lhs;whnf)
 all_goals (iterate 5 (split at h<;>first|(cases h;done)|skip))
 all_goals (simp only[lw,decide_eq_true_eq]at h)
 all_goals first
  |exact .inl ⟨_,_,_,_,_,_,rfl,rfl,h.1.1.1,h.1.1.2,h.1.2,h.2⟩
  |exact .inr (.inl ⟨_,_,_,_,_,_,_,_,rfl,rfl,h.1.1.1.1,h.1.1.1.2,h.1.1.2,h.1.2,h.2⟩)
  |exact .inr (.inr ⟨_,_,_,_,_,_,_,_,rfl,rfl,h.1.1.1.1.1,h.1.1.1.1.2,h.1.1.1.2,h.1.1.2,h.1.2,h.2⟩)
def kx (e:Expr){x:Ex}(h:mE S x e=true):lF e=true\/∃ elt gs scope p,e=.ListComp elt gs scope p:=by
 cases e<;>first|exact .inl rfl|exact .inr ⟨_,_,_,_,rfl⟩|(cases x<;>cases(show false=true from h))
def yK {G:Gx}{X:Cx}{E:St->XK}(g:Gs X G S k E){i:Nat}{x:Str}{e:Ex}{e':Expr}{px:Pos}(hx:S.loc i x=true)(h:mE S e e'=true):PS X (.Assign [.Name x px] e' p) (λD U H=>wS (.asg i e) G D E U H):=by
 obtain⟨hi,hl⟩:=g.loc hx;have hN:X.N.Nodup:=by rw[g.N];exact g.nd
 rcases kx e' h with hn|⟨elt,gs,scope,pp,rfl⟩
 .exact rQ hN hi hl (sE e g.toGd h) (dH hn _ _ _) (.inl (g.fn x))
 .intro Y s U H D I q;obtain⟨b,hb,hb2⟩:=kI (elt:=elt) (gs:=gs) (scope:=scope) (p:=pp) (py:=px) (y:=x) (n:=p.line) (env:=X.env) I.ok.kind;cases b with
  |false=>exact rQ hN hi hl (sE e g.toGd h) hb (.inl (g.fn x)) Y s U H D I q
  |true=>
   rcases zy h with⟨e2,sel,it,y,py,iter,rfl,rfl,h1,h2,h3,h4⟩|⟨e2,c,sel,it,y,py,iter,c',rfl,rfl,h1,h2,h3,h5,h4⟩|⟨e2,n,sel,it,ts,kt,pt,iter,rfl,rfl,h1,h5,h6,h2,h3,h4⟩
   .obtain⟨hc,q⟩:=(show G.cm=true/\wI G it U H (λJ H1=>pF (λσ' H' Q'=>wE G e2 σ' H' Q' (λ_ _=>False)) J (none::dA U sel) H1 (λx H1=>D.nx (U.set i (some x)) H1)) (E U) from q);rw[qr]at q;obtain⟨cl,C⟩:=a9 g.toGd I.ok h1;exact nc (g.cm hc) C (sI it g.toGd h2) (λs H fp=>sE e2 (g.toGd.comp C s H fp) h3) (aR h4 _) hN hi (hb2 rfl) hb Y s U H D I q
   .obtain⟨hc,q⟩:=(show G.cm=true/\wI G it U H (λJ H1=>wY (λσ' H' Q'=>wT G c σ' H' Q' (λ_ _=>False)) (λσ' H' Q'=>wE G e2 σ' H' Q' (λ_ _=>False)) J (none::dA U sel) H1 (λx H1=>D.nx (U.set i (some x)) H1)) (E U) from q);rw[rf]at q;obtain⟨cl,C⟩:=a9 g.toGd I.ok h1;exact c9 (g.cm hc) C (sI it g.toGd h2) (λs H fp=>iy C) (λs H fp=>mF (sT c (g.toGd.comp C s H fp) h5)) (λs H fp=>sE e2 (g.toGd.comp C s H fp) h3) (aR h4 _) hN hi (hb2 rfl) hb Y s U H D I q
   .cases(show false=true from h)
mutual
theorem sS:∀ (x:Sx){G:Gx}{X:Cx}{S:Sn}{E:St->XK},Gs X G S k E->∀ {st:Stmt},mS S x st=true->PS X st (λD U H=>wS x G D E U H)
 | .asg i e,G,X,S,E,g,st,h=>by
  sleep 3
  simp only[lw]at h;exact yK g h.1 h.2
 | .asgT is e,G,X,S,E,g,st,h=>by cases(show false=true from h)
 | .par is es,G,X,S,E,g,st,h=>by cases(show false=true from h)
 | .sub o i v,G,X,S,E,g,st,h=>by
  sleep 3
  simp only[lw]at h;obtain⟨⟨⟨h1,h2⟩,h3⟩,h4⟩:=h;exact xI (sE v g.toGd h3) (wa (sE o g.toGd h1) (sE i g.toGd h2) (mC g.un) (lG h4)) (oa _ _) (kH _) rfl
 | .fld o f v,G,X,S,E,g,st,h=>by
  sleep 3
  simp only[lw,decide_eq_true_eq]at h;obtain⟨⟨h1,rfl⟩,h3⟩:=h;intro Y s U H D I q;have q':wE G v U H (λy H1=>wE G o U H1 (λx H2=>yM G f x y H2 (λH3=>D.nx U H3)) (E U)) (E U):=q;refine plainObj_wpAny_Assign_Attribute (ar (sE v g.toGd h3 Y s U H _ I q') λu s1 ⟨y,H1,I1,ry,q⟩=>ar (sE o g.toGd h1 Y s1 U H1 _ I1 q) λov s2 ⟨x,H2,I2,rx,q2⟩=>?_) (n6 _ _);unfold yM at q2;obtain⟨a,i,rfl,hna,q2⟩:=q2;obtain rfl:ov=Value.ref a:=rx;have n:=g.tab.na i f hna;rcases q2 with⟨dx,fs,ho,ea,l,q2⟩|⟨d,fs,fr,ho,ea,l,q2⟩|⟨fr,ho,ea,q2⟩
  .exact ly I2 ea (g.tab.oc i ho).1 n l ry λs3 I3=>⟨U,_,I3,q2⟩
  .exact lb I2 ea (g.tab.xc i ho).1 n l ry λs3 I3=>⟨U,_,I3,q2⟩
  .exact lJ I2 ea (g.tab.xc i ho).1 n ry λd s3 hd I3=>⟨U,_,I3,q2 d hd⟩
 | .aug i op e,G,X,S,E,g,st,h=>by
  sleep 2
  simp only[lw,decide_eq_true_eq]at h;obtain⟨⟨h1,rfl⟩,h3⟩:=h;obtain⟨hi,hl⟩:=g.loc h1;refine PS.imp (wj (by rw[g.N];exact g.nd) hi hl (sE e g.toGd h3) (uT op) (.inl (g.fn _))) λD U H q=>?_
  conv at q=>whnf
  split at q
  .rename_i e;exact⟨_,e,q⟩
  .exact q.elim
 | .augS o i op e,G,X,S,E,g,st,h=>by
  sleep 2
  simp only[lw,decide_eq_true_eq]at h;obtain⟨⟨⟨⟨h1,h2⟩,rfl⟩,h3⟩,h4⟩:=h;exact tP (sE o g.toGd h1) (sE i g.toGd h2) (vR g.toGd) (sE e g.toGd h3) (uT op) (mC g.un) (t8 h4)
 | .ret e,G,X,S,E,g,st,h=>by
  sleep 2
  exact wX (sE e g.toGd h)
 | .retN,G,X,S,E,g,st,h=>by cases(show false=true from h)
 | .pass,G,X,S,E,g,st,h=>by cases(show false=true from h)
 | .brk,G,X,S,E,g,st,h=>by cases(show false=true from h)
 | .cont,G,X,S,E,g,st,h=>by cases(show false=true from h)
 | .expr e,G,X,S,E,g,st,h=>by
  sleep 1
  simp only[lw]at h;exact sv (sE e g.toGd h.1) (dH h.2 _ _ _)
 | .ife c a b,G,X,S,E,g,st,h=>by
  sleep 1
  simp only[lw]at h;exact PS.imp (zV (PT.bL (sT c g.toGd h.1.1)) (sB a g h.1.2) (sB b g h.2)) λD U H q=>⟨_,q,λk H1 z=>by rwa [cp]at z⟩
 | .whl c b,G,X,S,E,g,st,h=>by cases(show false=true from h)
 | .for t it b,G,X,S,E,g,st,h=>by
  sleep 2
  simp only[lw]at h;obtain⟨⟨⟨h1,h2⟩,h3⟩,h4⟩:=h;intro Y s U H D I q
  conv at q=>whnf
  obtain⟨hc,q⟩:=q;unfold kj at q;exact yg g.own (g.cm hc) (sI it g.toGd h2) (yQ g hc h1) (sB b g h3) (aR h4 _) Y s U H D I q
 | .rais e,G,X,S,E,g,st,h=>by
  sleep 3
  intro Y s U H D I q
  conv at q=>whnf
  obtain⟨hc,q⟩:=q;refine pz (g.xok hc) (g.cm hc) (PE.bL (sE e g.toGd h)) Y s U H D I ⟨_,q,λv H1 z=>?_⟩;obtain⟨a,i,dx,fs,ev,ea,hi,q⟩:=z;exact⟨a,_,dx,fs,ev,ea,(g.tab.xc i hi).1,q⟩
 | .tryx b hs,G,X,S,E,g,st,h=>by cases(show false=true from h)
theorem sB:∀ (x:fV){G:Gx}{X:Cx}{S:Sn}{E:St->XK},Gs X G S k E->∀ {st:List Stmt},mB S x st=true->vC X st (λD U H=>wB x G D E U H)
 | .nil,G,X,S,E,g,[],h=>ub
 | .nil,G,X,S,E,g,_::_,h=>by cases(show false=true from h)
 | .cons x xs,G,X,S,E,g,[],h=>by cases(show false=true from h)
 | .cons x xs,G,X,S,E,g,st::sts,h=>by
  have h:(mS S x st&&mB S xs sts)=true:=h;simp only[lw]at h;exact qE (sS x g h.1) (sB xs g h.2)
theorem sH:∀ (x:sq){G:Gx}{X:Cx}{S:Sn}{E:St->XK},Gs X G S k E->∀ {hs:List ExceptHandler},mH S x hs=true->∀ {Y:CD}{U:St}{H:Hp}{s:Shared}{e C:Addr}{dx:Option Addr}{fs:List (Str×V)}{T:Addr}{D:Ends},
  L2.Inv X Y U H s->H e=some (.exc C dx fs false)->X.s₀.heap.objs.size<=T->H T=none->(∀ p ∈ X.pn++Y,p.1≠T)->uj s.heap e T .none->wH x G D U e H->wpAny (model X.prog X.w) X.A (handleBy (.ref e) X.env hs) (SP X Y D) X.xe s
 | .nil,G,X,S,E,g,hs,h,Y,U,H,s,e,C,dx,fs,T,D,I,he,hT,hH,hp,st,q=>by
  simp only[wH]at q
 | .cons c i b hs,G,X,S,E,g,l,h,Y,U,H,s,e,C,dx,fs,T,D,I,he,hT,hH,hp,st,q=>by
  conv at h=>lhs;whnf
  split at h
  .simp only[lw,decide_eq_true_eq]at h;obtain⟨⟨⟨⟨⟨h1,h2⟩,h3⟩,h4⟩,h5⟩,h6⟩:=h;obtain⟨hg,hdb⟩:=g.glob h1;have hm:=g.tab.gcl _ _ (g.hT▸h2);obtain⟨j,dx',fs',kk,he',hxc,hsub,q⟩:=(show ∃ j dx fs k,H e=some (.exc (G.R.cad j) dx fs false)/\G.T.xc.contains j=true/\G.T.sub.lookup (j,c)=some k/\_ from q);have ee:=he.symm.trans he'
   injection ee with ee
   injection ee with e1 e2 e3 e4
   subst e1;obtain⟨_,hs2⟩:=g.tab.sub j c kk hsub;obtain⟨hs3,hs4⟩:=hs2 hxc;refine jP (i:=i) I he hT hH hp st (g.tab.xc j hxc).1 hs4 hs3 hg hm (by rw[g.N];exact g.nd) (by rw[g.N];exact h3) (by rw[g.sc];exact h4) hdb (λhk s2 J=>?_) λhk=>?_
   .rw[hk]at q;unfold fj at q;exact sB b (g.aK (.ref e)) h5 Y s2 _ H _ J q
   .rw[hk]at q;unfold fj at q;exact sH hs g h6 I he hT hH hp st q
  .cases h
end
end
abbrev bw (T:Tab)(R:Rt):Nat->Nat->Sp
 |0,_=>λ_ _ _ _=>False
 |k+1,f=>λvs H Q E=>match T.fns[f]? with
  |some d=>vs.length=d.ps.length/\wB d.body ⟨T,R,bw T R k,true⟩ { nx:=λ_ H'=>Q .non H',rt:=Q } (λ_=>E) (start d.N vs) H
  |none=>False
structure nj (K:W.Frag) (T:Tab) (f:Addr) (d:aE):Prop where
 ex:∃ (name qual:Str) (params:Arguments) (body:List Stmt) (scope:Scope) (dV kV doc pm cdv ct oc:Value) (od an:Option Addr) (osl:Array (Option Value)),
  K.lookup f=some ⟨oc,od,.func (W.fnOf name qual params body scope dV kV doc pm an cdv ct),osl⟩/\W.codeIn K cdv qual=true/\fB d.N d.ps scope/\mB ⟨T,scope,d.N⟩ d.body body=true/\
  ∀ j,∃ ds,Binds K (W.fnOf name qual params body scope dV kV doc pm an cdv ct) d.ps ds/\Vals (d.dfl.drop j) ds
def oA {P:Program}{w:World}{K:W.Frag}{mg:CF}{base:Heap}{T:Tab}{R:Rt}(tab:su K mg T R)(hK:R.K=K)(fs:∀ f d,T.fns[f]? =some d->nj K T (R.fad f) d):
  ∀ (k f:Nat) (d:aE),T.fns[f]? =some d->qw P w K mg base (2*k) (R.fad f) d (bw T R k f)
 |0,f,d,hd=>by
  obtain⟨name,qual,params,body,scope,dV,kV,doc,pm,cdv,ct,oc,od,an,osl,lk,hcd,S,hm,hb⟩:=(fs f d hd).ex;exact⟨⟨_,⟨λ_ _ _ _ h=>h.elim,λ_ _ _ _ _ _ _ _ _ _ _ _ _ h=>h.elim⟩,hb⟩,λ_ _ _ _ _=>⟨λ_ _ _ _ h=>h.elim,λ_ _ _ _ _ _ _ _ _ _ _ _ _ h=>h.elim⟩⟩
 |k+1,f,d,hd=>by
  obtain⟨name,qual,params,body,scope,dV,kV,doc,pm,cdv,ct,oc,od,an,osl,lk,hcd,S,hm,hb⟩:=(fs f d hd).ex;have F:=yG (P:=P) (w:=w) (mg:=mg) (base:=base) (CX:=qY P w) (k:=2*k+1) (sp:=bw T R (k+1) f) lk hcd S (λvs H Q E h=>?_) (λA outer s H vs Q E hr h=>?_)
  .refine⟨⟨_,F,hb⟩,λfd oc' od' osl' lk'=>?_⟩;have e:=lk.symm.trans lk'
   injection e with e
   injection e with e1 e2 e3 e4
   injection e3 with e3
   subst e3;exact F
  .simp only[bw,hd]at h;exact h.1
  .simp only[bw,hd]at h;refine⟨λD U H=>wB d.body ⟨T,R,bw T R k,true⟩ D (λ_=>E) U H,?_,h.2⟩;have hx:=nG (P:=P) (w:=w) (K:=K) (mg:=mg) (base:=base) (N:=d.N) (qual:=qual) (scope:=scope) (f:=R.fad f) (cd:=cdv) (A:=A) (outer:=outer) (E:=E) (s:=s) (H:=H);refine sB (k:=2*k) d.body (G:=⟨T,R,bw T R k,true⟩) (S:=⟨T,scope,d.N⟩) { hK:=hK,hT:=rfl,sc:=rfl,N:=rfl,nd:=S.nd,pass:=nX hx,cm:=λ_=>rfl,room:=λ_=>hr,un:= ?_,tab:=tab,fns:=λf' d' hd'=>oA tab hK fs k f' d' hd',xok:=λ_=>hx,own:=PassesOwn.leaving,stk:=rfl,fr:=rfl,fn:=λ_=>rfl } hm;have:=hr.un;show(A.deeper _).units+200<cLine
   omega
abbrev eG (K:W.Frag)(n:Nat):Sp:=λvs H Q _=>∃ (a:Addr) (ns:List Int),vs=[.ref a]/\aA K H a (ns.map V.int)/\ns.length<=n/\∀ H',Q (.bl true) H'
variable {P:Program}
def qD {w:World}{H:Hp}{s:Shared}{e:Value}{s':Shared}(h:qY P w [] H s (λ_ _=>False) e s'):False:=by
 obtain⟨e,H',C,dx,fs,T,_,_,_,_,_,_,_,_,_,q⟩:=h;exact q
variable {K:W.Frag}{fd:FuncData}{ps:List Str}
def yi (h:Binds K fd ps []):∀ j:Nat,∃ ds,Binds K fd ps ds/\Vals (([]:List V).drop j) ds:=λj=>⟨[],h,by simp;exact .nil⟩
def uo {ds:List Value}{T:Addr}{o:Obj}{items:Array Value}{c n:Nat}(hd:fd.defaults=.ref T)(ho:K.lookup T=some o)(hs:o.data=.seq items c)(hn:n+ds.length=ps.length)
  (h:∀ us:List Value,us.length=n->∃ k:Option (Array Value)->Sem (List (Str×Value)),bindArgs fd ⟨us,[]⟩=seqItems? fd.defaults >>= k/\k (some items)=pure (ps.zip (us++ds))):Binds K fd ps ds:=λs us X hl=>by
 obtain⟨k,h1,h2⟩:=h us (by rw[ci]at hl;omega);exact W.binds_K X hd ho hs h1 h2
def gO:∀ {vs:List V}{us:List Value}(j:Nat),Vals vs us->Vals (vs.drop j) (us.drop j)
 |_,_,0,h=>h
 |_,_,j+1,.nil=>by simp;exact .nil
 |_::_,_::_,j+1,.cons _ h=>by simpa using gO j h
def kr {α β:Type} [BEq α] [LawfulBEq α] {x:α}{y:β}:∀ {l:List (α×β)},l.lookup x=some y->(x,y) ∈ l
 | [],h=>by simp at h
 |(a,b)::l,h=>by
  rw[lookup_cons]at h;cases e:x ==a with
  |true=>
   rw[e]at h;have:=beq_iff_eq.mp e;subst this
   injection h with h
   subst h;exact li
  |false=>
   rw[e]at h;exact dl _ (kr h)
def fL {α β:Type} [BEq α] [LawfulBEq α] {P:α->β->Prop}{l:List (α×β)}(h:∀ p ∈ l,P p.1 p.2):∀ x y,l.lookup x=some y->P x y:=λx y e=>h (x,y) (kr e)
def dG {α β γ:Type} [BEq α] [LawfulBEq α] [BEq β] [LawfulBEq β] {P:α->β->γ->Prop}{l:List ((α×β)×γ)}(h:∀ p ∈ l,P p.1.1 p.1.2 p.2):∀ x y z,l.lookup (x,y)=some z->P x y z:=λx y z e=>h ((x,y),z) (kr e)
def eo {α:Type} [BEq α] [LawfulBEq α] {P:α->Prop}{l:List α}(h:∀ p ∈ l,P p):∀ x,l.contains x=true->P x:=λx e=>h x (by simpa using e)
def tU {α β:Type} [BEq α] [LawfulBEq α] [BEq β] [LawfulBEq β] {P:α->β->Prop}{l:List (α×β)}(h:∀ p ∈ l,P p.1 p.2):∀ x y,l.contains (x,y)=true->P x y:=λx y e=>h (x,y) (by simpa using e)
abbrev mz (P:Nat->aE->Prop):Nat->List aE->Prop
 |_,[]=>True
 |n,d::r=>P n d/\mz P (n+1) r
def vi {P:Nat->aE->Prop}:∀ {l:List aE}{n:Nat},mz P n l->∀ f d,l[f]? =some d->P (n+f) d
 | [],_,_,f,d,e=>by simp at e
 |a::l,n,h,0,d,e=>by
  have:a=d:=by simpa using e
  subst this;exact h.1
 |a::l,n,h,f+1,d,e=>by
  have:=vi h.2 f d (by simpa using e)
  rwa [Nat.add_assoc,Nat.add_comm 1 f]at this
def kC {P:Nat->aE->Prop}{l:List aE}(h:mz P 0 l):∀ f d,l[f]? =some d->P f d:=λf d e=>by
 have:=vi h f d e
 rwa [Nat.zero_add]at this
def xT {w:World}{mg:CF}{base:Heap}{T:Tab}{R:Rt}(tab:su K mg T R)(hK:R.K=K)(fs:∀ f d,T.fns[f]? =some d->nj K T (R.fad f) d) (k fl:Nat) (d:aE) (hd:T.fns[fl]? =some d)
  {oc:Value}{od:Option Addr}{osl:Array (Option Value)}(lk:K.lookup (R.fad fl)=some ⟨oc,od,.func fd,osl⟩) (h:∀ vs H Q E,eG K 63 vs H Q E->bw T R k fl vs H Q E):bI P w K mg base (qY P w) (2*k) (R.fad fl) fd d.ps (eG K 63):=
 ((oA tab hK fs k fl d hd).own _ _ _ _ lk).imp h
end L3
namespace L3
open PySem L2
abbrev iK:HO->HO
 | .lst _=>.lst []
 | .dK _=>.dK []
 | .dT _=>.dT []
 | .aP _ (.dK _)=>.dK []
 | .ins C dx _=>.ins C dx []
 | .exc C _ _ _=>.exc C none [] false
 |o=>o
abbrev gx (H H':Hp):Prop:=∀ a o,H a=some o->∃ o',H' a=some o'/\iK o'=iK o
def gx.tup {H H':Hp}(g:gx H H'){t:Addr}{xs:List V}(h:H t=some (.tup xs)):H' t=some (.tup xs):=by
 obtain⟨o',h1,h2⟩:=g t _ h;have key:∀ u:HO,iK u=.tup xs->u=.tup xs:=λu=>by cases u<;>intro e<;>first|exact e|cases e|(rename_i v;cases v<;>cases e)
 rw[key o' h2]at h1;exact h1
variable {H:Hp}{a:Addr}
def gx.upd {o o':HO}(h:H a=some o)(e:iK o'=iK o):gx H (L2.upd H a o'):=λb u hb=>by
 by_cases z:b=a
 .subst z;rw[h]at hb;cases hb;exact⟨o',ah,e⟩
 .exact⟨u,(af z).trans hb,rfl⟩
def gx.new {o':HO}(h:H a=none):gx H (L2.upd H a o'):=λb u hb=>⟨u,(af λz=>by rw[z,h]at hb;cases hb).trans hb,rfl⟩
structure ag where
 p:Hp->(Addr->Prop)->Prop
 st:∀ H H' D,p H D->(∀ a,D a->H' a=H a)->gx H H'->p H' D
 up:∀ H D D',p H D->(∀ a,D a->D' a)->p H D'
abbrev pt (a:Addr)(o:HO):ag:=⟨λH D=>D a/\H a=some o,λH H' D h k _=>⟨h.1,(k a h.1).trans h.2⟩,λH D D' h k=>⟨k a h.1,h.2⟩⟩
abbrev tu (t:Addr)(xs:List V):ag:=⟨λH _=>H t=some (.tup xs),λH H' D h _ k=>k.tup h,λH D D' h _=>h⟩
abbrev pu (φ:Prop):ag:=⟨λ_ _=>φ,λ_ _ _ h _ _=>h,λ_ _ _ h _=>h⟩
abbrev ex {α:Type}(f:α->ag):ag:=⟨λH D=>∃ x,(f x).p H D,λH H' D ⟨x,h⟩ k t=>⟨x,(f x).st H H' D h k t⟩,λH D D' ⟨x,h⟩ k=>⟨x,(f x).up H D D' h k⟩⟩
abbrev lQ (A B:ag):ag:=⟨λH D=>∃ D1 D2:Addr->Prop,(∀ a,D1 a->D a)/\(∀ a,D2 a->D a)/\(∀ a,D1 a->D2 a->False)/\A.p H D1/\B.p H D2,
 λH H' D ⟨D1,D2,s1,s2,dj,h1,h2⟩ k t=>⟨D1,D2,s1,s2,dj,A.st H H' D1 h1 (λa z=>k a (s1 a z)) t,B.st H H' D2 h2 (λa z=>k a (s2 a z)) t⟩,
 λH D D' ⟨D1,D2,s1,s2,dj,h1,h2⟩ k=>⟨D1,D2,λa z=>k a (s1 a z),λa z=>k a (s2 a z),dj,h1,h2⟩⟩
abbrev aF:List ag->Hp->(Addr->Prop)->Prop
 | [],_,_=>True
 |A::O,H,D=>∃ D1 D2:Addr->Prop,(∀ a,D1 a->D a)/\(∀ a,D2 a->D a)/\(∀ a,D1 a->D2 a->False)/\A.p H D1/\aF O H D2
abbrev Sep (O:List ag)(H:Hp):Prop:=∃ D:Addr->Prop,(∀ a,D a->H a≠none)/\aF O H D
inductive ax (A:ag):List ag->List ag->Prop where
 |e {O:List ag}:ax A (A::O) O
 |t {B:ag}{O Γ':List ag}(h:ax A O Γ'):ax A (B::O) (B::Γ')
variable {g:List ag}
section
variable {A B:ag}{O Γ':List ag}{H H':Hp}{a b p t:Addr}{o o':HO}{xs:List V}{φ:Prop}
def aF.st:∀ {O:List ag}{H H':Hp}{D:Addr->Prop},aF O H D->(∀ a,D a->H' a=H a)->gx H H'->aF O H' D
 | [],_,_,_,_,_,_=>True.intro
 |A::O,H,H',D,⟨D1,D2,s1,s2,dj,h1,h2⟩,k,t=>⟨D1,D2,s1,s2,dj,A.st H H' D1 h1 (λa z=>k a (s1 a z)) t,aF.st h2 (λa z=>k a (s2 a z)) t⟩
def aF.up:∀ {O:List ag}{H:Hp}{D D':Addr->Prop},aF O H D->(∀ a,D a->D' a)->aF O H D'
 | [],_,_,_,_,_=>True.intro
 |A::O,H,D,D',⟨D1,D2,s1,s2,dj,h1,h2⟩,k=>⟨D1,D2,λa z=>k a (s1 a z),λa z=>k a (s2 a z),dj,h1,h2⟩
def Sep.nil:Sep [] H:=⟨λ_=>False,λ_ z=>z.elim,True.intro⟩
def aF.pull:∀ {O Γ':List ag}{D:Addr->Prop},ax A O Γ'->aF O H D->aF (A::Γ') H D:=by
 intro O Γ' D h
 induction h generalizing D with
 |e=>exact λz=>z
 |t h ih=>
  rintro⟨D1,D2,s1,s2,dj,h1,h2⟩;obtain⟨E1,E2,t1,t2,ej,k1,k2⟩:=ih h2;refine⟨E1,λa=>D1 a\/E2 a,λa z=>s2 a (t1 a z),λa z=>z.elim (s1 a) λz=>s2 a (t2 a z),λa z1 z2=>?_,k1,D1,E2,λa z=>.inl z,λa z=>.inr z,λa z1 z2=>dj a z1 (t2 a z2),h1,k2⟩;rcases z2 with z2|z2
  .exact dj a z2 (t1 a z1)
  .exact ej a z1 z2
def Sep.pull (h:ax A O Γ')(s:Sep O H):Sep (A::Γ') H:=let⟨D,k,z⟩:=s;⟨D,k,aF.pull h z⟩
def aF.push:∀ {O Γ':List ag}{D:Addr->Prop},ax A O Γ'->aF (A::Γ') H D->aF O H D:=by
 intro O Γ' D h
 induction h generalizing D with
 |e=>exact λz=>z
 |t h ih=>
  rintro⟨D1,D2,s1,s2,dj,h1,E1,E2,t1,t2,ej,k1,k2⟩;refine⟨E1,λa=>D1 a\/E2 a,λa z=>s2 a (t1 a z),λa z=>z.elim (s1 a) λz=>s2 a (t2 a z),λa z1 z2=>?_,k1,ih ⟨D1,E2,λa z=>.inl z,λa z=>.inr z,λa z1 z2=>dj a z1 (t2 a z2),h1,k2⟩⟩;rcases z2 with z2|z2
  .exact dj a z2 (t1 a z1)
  .exact ej a z1 z2
def Sep.push (h:ax A O Γ')(s:Sep (A::Γ') H):Sep O H:=let⟨D,k,z⟩:=s;⟨D,k,aF.push h z⟩
def Sep.drop (s:Sep (A::O) H):Sep O H:=let⟨D,k,D1,D2,s1,s2,dj,h1,h2⟩:=s;⟨D2,λa z=>k a (s2 a z),h2⟩
def Sep.at (s:Sep (pt a o::O) H):H a=some o:=let⟨D,k,D1,D2,s1,s2,dj,h1,h2⟩:=s;h1.2
def Sep.atT (s:Sep (tu t xs::O) H):H t=some (.tup xs):=let⟨D,k,D1,D2,s1,s2,dj,h1,h2⟩:=s;h1
def Sep.pure (s:Sep (pu φ::O) H):φ:=let⟨D,k,D1,D2,s1,s2,dj,h1,h2⟩:=s;h1
def Sep.Bo (h:φ)(s:Sep O H):Sep (pu φ::O) H:=let⟨D,k,h2⟩:=s;⟨D,k,λ_=>False,D,λ_ z=>z.elim,λ_ z=>z,λ_ z _=>z,h,h2⟩
def Sep.yw (h:H t=some (.tup xs))(s:Sep O H):Sep (tu t xs::O) H:=let⟨D,k,h2⟩:=s;⟨D,k,λ_=>False,D,λ_ z=>z.elim,λ_ z=>z,λ_ z _=>z,h,h2⟩
def Sep.ne (s:Sep (pt a o::pt b o'::O) H):a≠b:=by
 obtain⟨D,k,D1,D2,s1,s2,dj,h1,E1,E2,t1,t2,ej,k1,k2⟩:=s;rintro rfl;exact dj a h1.1 (t1 a k1.1)
def Sep.set (s:Sep (pt a o::O) H)(n:iK o'=iK o):Sep (pt a o'::O) (upd H a o'):=by
 obtain⟨D,k,D1,D2,s1,s2,dj,h1,h2⟩:=s;refine⟨D,λb z=>?_,D1,D2,s1,s2,dj,⟨h1.1,ah⟩,aF.st h2 (λb z=>af λe=>dj a h1.1 (e▸z)) (gx.upd h1.2 n)⟩
 by_cases e:b=a
 .rw[e,ah];exact λz=>by cases z
 .rw[af e];exact k b z
def Sep.new (s:Sep O H)(h:H p=none):Sep (pt p o::O) (upd H p o):=by
 obtain⟨D,k,z⟩:=s;have ne:∀ b,D b->b≠p:=λb hb e=>k b hb (e▸h)
 refine⟨λb=>b=p\/D b,λb hb=>?_,λb=>b=p,D,λb e=>.inl e,λb e=>.inr e,λb e z=>ne b z e,⟨rfl,ah⟩,aF.st z (λb hb=>af (ne b hb)) (gx.new h)⟩;rcases hb with rfl|hb
 .rw[ah];exact λz=>by cases z
 .rw[af (ne b hb)];exact k b hb
def Sep.om (s:Sep O H)(h:H p=none):Sep (tu p xs::O) (upd H p (.tup xs)):=Sep.yw ah (Sep.drop (s.new (o:=.tup xs) h))
def Sep.toT (s:Sep (pt t (.tup xs)::O) H):Sep (tu t xs::O) H:=Sep.yw s.at s.drop
def Sep.star:Sep (lQ A B::O) H ↔ Sep (A::B::O) H:=by
 constructor
 .rintro⟨D,k,D1,D2,s1,s2,dj,⟨E1,E2,t1,t2,ej,k1,k2⟩,h2⟩;refine⟨D,k,E1,λa=>E2 a\/D2 a,λa z=>s1 a (t1 a z),λa z=>z.elim (λz=>s1 a (t2 a z)) (s2 a),λa z1 z2=>?_,k1,E2,D2,λa z=>.inl z,λa z=>.inr z,λa z1 z2=>dj a (t2 a z1) z2,k2,h2⟩;rcases z2 with z2|z2
  .exact ej a z1 z2
  .exact dj a (t1 a z1) z2
 .rintro⟨D,k,D1,D2,s1,s2,dj,h1,E1,E2,t1,t2,ej,k1,k2⟩;refine⟨D,k,λa=>D1 a\/E1 a,E2,λa z=>z.elim (s1 a) λz=>s2 a (t1 a z),λa z=>s2 a (t2 a z),λa z1 z2=>?_,⟨D1,E1,λa z=>.inl z,λa z=>.inr z,λa z1 z2=>dj a z1 (t1 a z2),h1,k1⟩,k2⟩;rcases z1 with z1|z1
  .exact dj a z1 (t2 a z2)
  .exact ej a z1 z2
def Sep.BV {α:Type}{f:α->ag}:Sep (ex f::O) H ↔ ∃ x,Sep (f x::O) H:=by
 constructor
 .rintro⟨D,k,D1,D2,s1,s2,dj,⟨x,h1⟩,h2⟩;exact⟨x,D,k,D1,D2,s1,s2,dj,h1,h2⟩
 .rintro⟨x,D,k,D1,D2,s1,s2,dj,h1,h2⟩;exact⟨D,k,D1,D2,s1,s2,dj,⟨x,h1⟩,h2⟩
def Sep.get (s:Sep O H)(h:ax (pt a o) O Γ'):H a=some o:=(s.pull h).at
def Sep.zL (s:Sep O H)(h:ax (tu t xs) O Γ'):H t=some (.tup xs):=(s.pull h).atT
inductive bz (A B:ag):List ag->List ag->Prop where
 |e {O:List ag}:bz A B (A::O) (B::O)
 |t {C:ag}{O Γ':List ag}(h:bz A B O Γ'):bz A B (C::O) (C::Γ')
def ax.k1 {b:ag}:ax A (b::A::g) (b::g):=.t .e
def ax.k2 {b c:ag}:ax A (b::c::A::g) (b::c::g):=.t .k1
def ax.k3 {b c d:ag}:ax A (b::c::d::A::g) (b::c::d::g):=.t .k2
def ax.j2 {b c:ag}{f:List ag}(h:ax A g f):ax A (b::c::g) (b::c::f):=.t (.t h)
def bz.k1 {b:ag}:bz A B (b::A::g) (b::B::g):=.t .e
def bz.k2 {b c:ag}:bz A B (b::c::A::g) (b::c::B::g):=.t .k1
def bz.k3 {b c d:ag}:bz A B (b::c::d::A::g) (b::c::d::B::g):=.t .k2
def bz.j2 {b c:ag}{f:List ag}(h:bz A B g f):bz A B (b::c::g) (b::c::f):=.t (.t h)
def bz.mx (h:bz A B O Γ'):∃ Δ,ax A O Δ/\ax B Γ' Δ:=by
 induction h with
 |e=>exact⟨_,.e,.e⟩
 |t h ih=>
  obtain⟨Δ,h1,h2⟩:=ih;exact⟨_,.t h1,.t h2⟩
def Sep.put (s:Sep O H)(h:bz (pt a o) (pt a o') O Γ')(n:iK o'=iK o):Sep Γ' (upd H a o'):=by
 obtain⟨Δ,h1,h2⟩:=h.mx;exact((s.pull h1).set n).push h2
inductive Sub:List ag->List ag->Prop where
 |refl {O:List ag}:Sub O O
 |nil {O:List ag}:Sub [] O
 |cons {A:ag}{O Γ' Δ:List ag}(h:ax A O Δ) (r:Sub Γ' Δ):Sub (A::Γ') O
 |drop {A:ag}{O Γ':List ag}(r:Sub Γ' O):Sub Γ' (A::O)
def aF.sub:∀ {O Γ':List ag}{D:Addr->Prop},Sub Γ' O->aF O H D->aF Γ' H D:=by
 intro O Γ' D h
 induction h generalizing D with
 |refl=>exact λz=>z
 |nil=>exact λ_=>True.intro
 |cons h r ih=>
  intro z;obtain⟨D1,D2,s1,s2,dj,h1,h2⟩:=aF.pull h z;exact⟨D1,D2,s1,s2,dj,h1,ih h2⟩
 |drop r ih=>
  rintro⟨D1,D2,s1,s2,dj,h1,h2⟩;exact(ih h2).up s2
def Sep.sub (h:Sub Γ' O)(s:Sep O H):Sep Γ' H:=let⟨D,k,z⟩:=s;⟨D,k,aF.sub h z⟩
end
@[irreducible] noncomputable def ae (T:Tab) (R:Rt) (k f:Nat):Sp:=bw T R k f
def jm:ae=bw:=by
 funext T R k f
 unfold ae
 rfl
variable {Q:VK}
def wc {T:Tab}{R:Rt}{k f:Nat}{d:aE}{vs:List V}{E:XK}(hk:0<k)(hd:T.fns[f]? =some d)(hl:vs.length=d.ps.length)
  (h:wB d.body ⟨T,R,ae T R (k-1),true⟩ { nx:=λ_ H'=>Q .non H',rt:=Q } (λ_=>E) (start d.N vs) H):ae T R k f vs H Q E:=by
 rw[jm]at h⊢;cases k with
 |zero=>exact absurd hk (by decide)
 |succ k=>
  show(match T.fns[f]? with|some d=>_|none=>False);rw[hd];exact⟨hl,h⟩
variable {c:Bool}
def pL {A B:Prop}(h1:c=true->A)(h2:c=false->B):fj c A B:=by
 unfold fj;cases c
 .exact h2 rfl
 .exact h1 rfl
def cg {A B:Prop}(h:c=true)(h1:A):fj c A B:=by subst h;unfold fj;exact h1
def aq {A B:Prop}(h:c=false)(h1:B):fj c A B:=by subst h;unfold fj;exact h1
def wA {A B:Prop}(h:fj c B A):fj (!c) A B:=by
 unfold fj at h⊢;cases c
 .exact h
 .exact h
def b6 {p:Prop} [Decidable p] {A B:Prop}(h1:p->A)(h2:¬ p->B):fj (decide p) A B:=pL (λh=>h1 (of_decide_eq_true h)) λh=>h2 (of_decide_eq_false h)
def dv {i j:Int}{A B:Prop}(h1:i=j->A)(h2:i≠j->B):fj (fm (.int i) (.int j)) A B:=by
 show fj (i ==j) A B;exact pL (λh=>h1 (by simpa using h)) λh=>h2 (by simpa using h)
variable {dx:Addr}{es:List V}{R:It->Hp->Prop}{n:Nat}{fs:List (Str×V)}
section
variable {K:W.Frag}{G:Gx}{O Γ':List ag}{H:Hp}{Q:VK}{a p:Addr}{o:HO}{xs ys:List V}{v w:V}{i:Int}{f:Str}
def al (s:Sep O H)(h:∀ p H',Sep (pt p o::O) H'->Q (.ref p) H'):∀ p,H p=none->Q (.ref p) (upd H p o):=λp hp=>h p _ (s.new hp)
def cH {C x:Addr}(s:Sep O H)(h1:H x=none)(h2:H dx=none)(h3:dx≠x):Sep (pt x (.ins C dx [])::pt dx (.own x)::O) (upd (upd H dx (.own x)) x (.ins C dx [])):=(s.new h2).new (by rw[af h3.symm];exact h1)
def il (s:Sep O H)(hl:es.length<=10000)(h:∀ p H',Sep (pt p (.lst es)::O) H'->Q (.ref p) H'):rm es H Q:=by unfold rm;exact⟨hl,al s h⟩
def ij (s:Sep O H)(hl:es.length<=10000)(h:∀ p H',Sep (pt p (.tup es)::O) H'->Q (.ref p) H'):om es H Q:=by unfold om;exact⟨hl,al s h⟩
def v9 (s:Sep O H)(h:∀ p H',Sep (pt p (.dK [])::O) H'->Q (.ref p) H'):newD H Q:=by unfold newD;exact al s h
def bP (e:H a=some (.lst xs))(hv:eP xs i=some v)(q:Q v H):lX K (.ref a) (.int i) H Q:=by unfold lX;exact .inl ⟨xs,i,v,rfl,.inl (aA.of e),hv,q⟩
def av (e:H a=some (.tup xs))(hv:eP xs i=some v)(q:Q v H):lX K (.ref a) (.int i) H Q:=by unfold lX;exact .inl ⟨xs,i,v,rfl,.inr (cV.of e),hv,q⟩
def zO {R:Hp->Prop}{j:Nat}(s:Sep O H)(r:bz (pt a (.lst xs)) (pt a (.lst ys)) O Γ')(hj:tV xs.length i=some j)(hx:xs.set j v=ys)(h:∀ H',Sep Γ' H'->R H'):jW (.ref a) (.int i) v H R:=by
 obtain⟨Δ,h1,h2⟩:=r.mx;subst hx;unfold jW;exact .inl ⟨xs,i,j,rfl,s.get h1,hj,h _ (s.put r rfl)⟩
def Ac (e:H a=some (.lst xs))(h0:0<=i)(hv:xs[i.toNat]? =some v)(q:Q v H):pY K (.ref a) (.int i) H Q:=by unfold pY;exact⟨xs,v,aA.of e,h0,hv,q⟩
def cj (e:H a=some (.ins (G.R.cad n) dx fs))(ho:G.T.oc.contains n=true)(hn:G.T.na.contains (n,f)=true)(hl:fs.lookup f=some v)(q:Q v H):sk G f (.ref a) H Q:=by unfold sk;exact⟨a,n,fs,v,rfl,.inl ⟨ho,dx,e⟩,hn,hl,q⟩
def A1 {fs':List (Str×V)}{R:Hp->Prop}(s:Sep O H)(r:bz (pt a (.ins (G.R.cad n) dx fs)) (pt a (.ins (G.R.cad n) dx fs')) O Γ')(ho:G.T.oc.contains n=true)(hn:G.T.na.contains (n,f)=true)(hl:fs.length<1000)(hf:bB f v fs=fs')(h:∀ H',Sep Γ' H'->R H'):yM G f (.ref a) v H R:=by
 obtain⟨Δ,h1,h2⟩:=r.mx;subst hf;unfold yM;exact⟨a,n,rfl,hn,.inl ⟨dx,fs,ho,s.get h1,hl,h _ (s.put r rfl)⟩⟩
def fP {n t:String}{b:Bool}(ht:tyName v H=some t)(hb:G.T.subB.lookup (t,n)=some b)(q:Q (.bl b) H):gz G (.ty n) v H Q:=by unfold gz;exact .inl ⟨t,b,ht,hb,q⟩
def aV {j:Nat}{b:Bool}(e:H a=some (.ins (G.R.cad j) dx fs))(ho:G.T.oc.contains j=true)(hb:G.T.sub.lookup (j,n)=some b)(q:Q (.bl b) H):gz G (.own n) (.ref a) H Q:=by unfold gz;exact .inr ⟨a,j,b,rfl,.inl ⟨ho,dx,fs,e⟩,hb,q⟩
def my (e:H a=some (.lst xs))(q:Q (.int xs.length) H):ja G .len [.ref a] H Q:=by unfold ja;exact⟨_,xs.length,rfl,.inl ⟨xs,aA.of e,rfl⟩,q⟩
def qQ {j:Int}(hc:G.cm=true)(q:Q (.int (min i j)) H):ja G .min [.int i,.int j] H Q:=by
 unfold ja;refine⟨hc,.inl ⟨i,j,rfl,?_⟩⟩;have e:(if j<i then j else i)=min i j:=by split<;>omega
 rw[e];exact q
def cT (s:Sep O H)(e:H a=some (.lst xs))(h:∀ p H',Sep (pt p (.lst xs)::O) H'->Q (.ref p) H'):ja G .list [.ref a] H Q:=by unfold ja;exact .inl ⟨_,xs,rfl,.inl (aA.of e),al s h⟩
def vx (s:Sep O H){b:Addr}(e1:H a=some (.lst xs))(e2:H b=some (.lst ys))(hl:xs.length+ys.length<=100000)(h:∀ p H',Sep (pt p (.lst (xs++ys))::O) H'->Q (.ref p) H'):tJ K a b H Q:=by unfold tJ;exact .inl ⟨xs,ys,e1,e2,hl,al s h⟩
def pN (s:Sep O H)(e:H a=some (.lst xs))(h1: -1000<=i)(h2:i<=1000)(h3:xs.length<=1000)(h:∀ p H',Sep (pt p (.lst (pi i.toNat xs).flatten)::O) H'->Q (.ref p) H'):uw K a i H Q:=by unfold uw;exact .inl ⟨xs,e,h1,h2,h3,al s h⟩
def gF {y:V}(s:Sep O H)(r:bz (pt a (.lst xs)) (pt a (.lst (xs++[y]))) O Γ')(hl:xs.length<=10000)(h:∀ H',Sep Γ' H'->Q .non H'):zl .append a xs [y] H Q:=by unfold zl;exact⟨_,rfl,hl,h _ (s.put r rfl)⟩
def Bp {lo hi:Option Int}(s:Sep O H)(e:aA K H a xs)(h:∀ p H',Sep (pt p (.lst (jR xs lo hi))::O) H'->Q (.ref p) H'):yx K (.ref a) lo hi H Q:=by unfold yx;exact .inl ⟨xs,e,al s h⟩
def lC (e:H a=some (.lst xs))(h:R (yp K a) H):iO K a H R:=by unfold iO;exact .inl ⟨⟨xs,aA.of e⟩,h⟩
end
variable {x:V}
section
variable {K:W.Frag}{H:Hp}{Q:VK}
def dC (f:au x=true):fm x x=true:=by
 cases x<;>simp[au]at f<;>simp[fm]
def iW {y:V}(fx:au x=true)(fy:au y=true)(q:Q (.bl (fm x y)) H):cU K false x y H Q:=by unfold cU;exact⟨0,_,.flat fx fy,by decide,.inl fx,q⟩
def lR {y:V}(fx:au x=true)(fy:au y=true)(q:Q (.bl (!fm x y)) H):cU K true x y H Q:=by unfold cU;exact⟨0,_,.flat fx fy,by decide,.inl fx,q⟩
def qV {b:Addr}(h:jd K H n (.ref a) (.ref b) c)(hn:n<=100)(ne:a≠b)(q:Q (.bl c) H):cU K false (.ref a) (.ref b) H Q:=by unfold cU;exact⟨n,c,h,hn,.inr (.inl λz=>ne (V.ref.inj z)),q⟩
def pH {b:Addr}(h:jd K H n (.ref a) (.ref b) c)(hn:n<=100)(ne:a≠b)(q:Q (.bl (!c)) H):cU K true (.ref a) (.ref b) H Q:=by unfold cU;exact⟨n,c,h,hn,.inr (.inl λz=>ne (V.ref.inj z)),q⟩
end
variable {K:W.Frag}{xs:List V}{rest:St}{te:TE}
section
variable {D:Ends}{F:(St->Hp->Prop)->V->St->Hp->Prop}{U:St}{H:Hp}
def fw {lo:Int}(I:Nat->St->Hp->Prop)(h0:I 0 U H)(hs:∀ j U H,j<n->I j U H->F (I (j+1)) (.int (lo+j)) U H) (hd:∀ U H,I n U H->D.nx U H):kj (yu lo n) D F U H:=by
 unfold kj;refine⟨λi m U H=>m=n-i/\i<=n/\I i U H,⟨n,by simp,Nat.zero_le _,h0⟩,λi m U H ⟨e,hi,h⟩=>?_⟩
 by_cases hlt:i<n
 .refine .inr ⟨hlt,I (i+1),λσ' H' h'=>⟨n-(i+1),by omega,rfl,hlt,h'⟩,λx H' y=>?_⟩;obtain⟨rfl,rfl⟩:=y;exact hs i U H' hlt h
 .have:i=n:=by omega
  subst this;exact .inl ⟨ol _,hd U H h⟩
def ft (I:Nat->St->Hp->Prop)(h0:I 0 U H)(hl:∀ j U H,I j U H->aA K H a xs)
  (hs:∀ j x U H,xs[j]? =some x->I j U H->F (I (j+1)) x U H) (hd:∀ U H,I xs.length U H->D.nx U H):kj (yp K a) D F U H:=by
 unfold kj;refine⟨λi m U H=>m=xs.length-i/\i<=xs.length/\I i U H,⟨xs.length,by simp,Nat.zero_le _,h0⟩,λi m U H ⟨e,hi',h⟩=>?_⟩
 by_cases hlt:i<xs.length
 .refine .inr ⟨⟨xs,xs[i],hl i U H h,lf hlt⟩,I (i+1),λσ' H' h'=>⟨xs.length-(i+1),by omega,rfl,hlt,h'⟩,λx H' y=>?_⟩;obtain⟨rfl,hy⟩:=y;exact hs i x U H' (hy xs (hl i U H' h)) h
 .have:i=xs.length:=by omega
  subst this;exact .inl ⟨⟨xs,hl _ U H h,ol _⟩,hd U H h⟩
@[irreducible] noncomputable def kS (I:Addr->List V->Hp->Prop) (D:Addr) (ys:List V) (rest:St) (x:Option V):VK:=λv H3=>∃ zs,H3 D=some (.lst zs)/\zs.length<bn/\∃ ys2 x2,x::rest=x2::rest/\ys2.length=ys.length+1/\I D ys2 (upd H3 D (.lst (zs++[v])))
def kS.mk {I:Addr->List V->Hp->Prop}{D:Addr}{ys:List V}{x:Option V}{v:V}{H3:Hp}(h1:H3 D=some (.lst ys))(hl:ys.length<=999)(h2:I D (ys++[v]) (upd H3 D (.lst (ys++[v])))):kS I D ys rest x v H3:=
 by unfold kS;exact⟨ys,h1,bK nofun,ys++[v],x,rfl,by simp,h2⟩
def xu (hn:n<=1000)(I:Addr->List V->Hp->Prop)(h0:∀ D,H D=none->I D [] (upd H D (.lst [])))
  (hs:∀ D ys H',ys.length<n->I D ys H'->te (some (.int (0+(ys.length:Nat)))::rest) H' (kS I D ys rest (some (.int (0+(ys.length:Nat))))))
  (hd:∀ D ys H',ys.length=n->I D ys H'->Q (.ref D) H'):pF te (yu 0 n) (none::rest) H Q:=by
 unfold pF;intro D hD;refine⟨λi m σ' H'=>m=n-i/\i<=n/\∃ ys x0,σ'=x0::rest/\ys.length=i/\I D ys H',⟨n,by simp,Nat.zero_le _,[],none,rfl,rfl,h0 D hD⟩,λi m σ' H' ⟨e,hi,ys,x0,e1,e2,h⟩=>?_⟩;subst e1 e2
 by_cases hlt:ys.length<n
 .refine .inr ⟨hlt,λσ2 H2=>∃ ys2 x2,σ2=x2::rest/\ys2.length=ys.length+1/\I D ys2 H2,λσ2 H2 ⟨ys2,x2,f1,f2,f3⟩=>⟨n-(ys.length+1),by omega,rfl,hlt,ys2,x2,f1,f2,f3⟩,λx H'' y=>?_⟩;obtain⟨e1,e2⟩:=y;subst e1 e2;have z:=hs D ys H'' hlt h;unfold kS at z;exact z
 .have:ys.length=n:=by omega
  exact .inl ⟨Nat.le_of_eq this.symm,hd D ys H' this h⟩
def kJ (hn:xs.length<=1000)(I:Addr->List V->Hp->Prop)(hl:∀ D ys H,I D ys H->aA K H a xs) (h0:∀ D,H D=none->I D [] (upd H D (.lst [])))
  (hs:∀ D ys x H',xs[ys.length]? =some x->I D ys H'->te (some x::rest) H' (kS I D ys rest (some x)))
  (hd:∀ D ys H',ys.length=xs.length->I D ys H'->Q (.ref D) H'):pF te (yp K a) (none::rest) H Q:=by
 unfold pF;intro D hD;refine⟨λi m σ' H'=>m=xs.length-i/\i<=xs.length/\∃ ys x0,σ'=x0::rest/\ys.length=i/\I D ys H',⟨xs.length,by simp,Nat.zero_le _,[],none,rfl,rfl,h0 D hD⟩,λi m σ' H' ⟨e,hi,ys,x0,e1,e2,h⟩=>?_⟩;subst e1 e2
 by_cases hlt:ys.length<xs.length
 .refine .inr ⟨⟨xs,xs[ys.length],hl D ys H' h,lf hlt⟩,λσ2 H2=>∃ ys2 x2,σ2=x2::rest/\ys2.length=ys.length+1/\I D ys2 H2,λσ2 H2 ⟨ys2,x2,f1,f2,f3⟩=>⟨xs.length-(ys.length+1),by omega,rfl,hlt,ys2,x2,f1,f2,f3⟩,λx H'' y=>?_⟩;obtain⟨e1,hy⟩:=y;subst e1;have z:=hs D ys x H'' (hy xs (hl D ys H'' h)) h;unfold kS at z;exact z
 .have:ys.length=xs.length:=by omega
  exact .inl ⟨⟨xs,hl D ys H' h,Nat.le_of_eq this.symm⟩,hd D ys H' this h⟩
def qa {K:W.Frag}{G:Gx}{bs:List Bool}(hc:G.cm=true)(e:H a=some (.lst (bs.map V.bl)))(q:Q (.bl (bs.all id)) H):ja G .all [.ref a] H Q:=by unfold ja;exact⟨hc,_,bs,rfl,aA.of e,q⟩
def xZ {K:W.Frag}{G:Gx}{ns:List Int}(hc:G.cm=true)(e:H a=some (.lst (ns.map V.int)))(q:Q (.int ns.sum) H):ja G .sum [.ref a] H Q:=by unfold ja;exact⟨hc,_,ns,rfl,aA.of e,q⟩
def kB (q:Q (.bl (decide (x=.non))) H):vI false x .non H Q:=by unfold vI;exact q
def Bt (e:cV K H a xs)(fx:au x=true)(fs:xs.all au=true)(q:Q (.bl (rC x xs)) H):j5 K false x (.ref a) H Q:=by unfold j5;exact .inl ⟨xs,.inr e,fx,fs,q⟩
def AI (e:aA K H a xs)(fx:au x=true)(fs:xs.all au=true)(q:Q (.bl (rC x xs)) H):j5 K false x (.ref a) H Q:=by unfold j5;exact .inl ⟨xs,.inl e,fx,fs,q⟩
end
variable {kvs:List (Key×V)}{k:Key}{o:Obj}{z:Str}
section
variable {K:W.Frag}{G:Gx}{O Γ':List ag}{H:Hp}{Q:VK}{a b:Addr}{xs ys:List V}{v:V}
def zc (e:H a=some (.dK kvs))(hv:aX kvs k=some v)(q:Q v H):lX K (.ref a) (kV k) H Q:=by unfold lX;exact .inr ⟨v,.inl ⟨kvs,k,.inl e,rfl,hv.symm⟩,q⟩
def jO {kvs':List (Key×V)}{R:Hp->Prop}(s:Sep O H)(r:bz (pt a (.dK kvs)) (pt a (.dK kvs')) O Γ')(hl:kvs.length<=10000)(hx:putK kvs k v=kvs')(h:∀ H',Sep Γ' H'->R H'):jW (.ref a) (kV k) v H R:=by
 obtain⟨Δ,h1,h2⟩:=r.mx;subst hx;unfold jW;exact .inr ⟨_,.inl ⟨kvs,k,s.get h1,rfl,Nat.lt_of_le_of_lt hl (by decide),rfl⟩,h _ (s.put r rfl)⟩
def dE {d:Addr}(hc:G.cm=true)(s:Sep O H)(e:Rd H d (.dK kvs))(h:∀ p H',Sep (pt p (.lst (kvs.map (λkv=>kV kv.1)))::O) H'->Q (.ref p) H'):ja G .list [.ref d] H Q:=by unfold ja;exact .inr ⟨hc,d,kvs,rfl,e,al s h⟩
def Bq {p:Addr}{y:V}{j:Nat}(e:V->Bool)(h1:H p=some (.lst xs))(hl:xs.length<=10000)(he:∀ x ∈ xs,∃ n,n<=100/\jd K H n x y (e x)) (hj:xs[j]? =some x) (ej:e x=true) (hm:∀ (m:Nat) x,m<j->xs[m]? =some x->e x=false) (q:Q (.int (j:Int)) H):qM K p y H Q:=by unfold qM;exact⟨xs,e,j,x,h1,hl,he,hj,ej,hm,q⟩
def nJ {C:Addr}(s:Sep O H)(h:∀ x dx H',Sep (pt x (.ins C dx [])::pt dx (.own x)::O) H'->Q (.ref x) H'):pU C H Q:=by unfold pU;exact λx dx h1 h2 h3=>h x dx _ (cH s h1 h2 h3)
def AR (s:Sep (pt a (.dK kvs)::O) H)(h:∀ o H',Sep (pt a (.aP o (.dK kvs))::O) H'->R (vn a o kvs) H'):iO K a H R:=by unfold iO;exact .inr (.inr (.inl ⟨kvs,s.at,λo=>h o _ (s.set rfl)⟩))
def yV (e:H a=some (.aP o (.dK kvs)))(h:R (vn a o kvs) H):iO K a H R:=by unfold iO;exact .inr (.inr (.inr ⟨o,kvs,e,h⟩))
def tN {G:Gx}{zs:List Str}(e:H a=some (.lst (zs.map V.str)))(hw:(zs.map (·.length)).sum+zs.length<=1000000)(hz:z.length<=16)(q:Q (.str (Txt.join z zs)) H):Ai K .join z (.ref a) H Q:=by unfold Ai rJoin;exact⟨z,a,zs,rfl,rfl,aA.of e,hw,hz,q⟩
def zW {c:Nat}{i:Int}(hz:z.length<=100000)(hv:eP z.cps.toList i=some c)(q:Q (.str ⟨#[c]⟩) H):lX K (.str z) (.int i) H Q:=by unfold lX;exact⟨i,c,rfl,hz,hv,q⟩
def vf (e:H a=some (.aP o (.dK kvs)))(hv:aX kvs k=some v)(q:Q v H):lX K (.ref a) (kV k) H Q:=by unfold lX;exact .inr ⟨v,.inl ⟨kvs,k,.inr ⟨o,e⟩,rfl,hv.symm⟩,q⟩
def l6 {D:Ends}{F:(St->Hp->Prop)->V->St->Hp->Prop}{U:St}(I:Nat->St->Hp->Prop)(h0:I 0 U H)(hl:∀ j U H,I j U H->H a=some (.aP o (.dK kvs)))
  (hs:∀ j kv U H,kvs[j]? =some kv->I j U H->F (I (j+1)) (kV kv.1) U H) (hd:∀ U H,I kvs.length U H->D.nx U H):kj (vn a o kvs) D F U H:=by
 unfold kj;refine⟨λi m U H=>m=kvs.length-i/\i<=kvs.length/\I i U H,⟨kvs.length,by simp,Nat.zero_le _,h0⟩,λi m U H ⟨e,hi',h⟩=>?_⟩
 by_cases hlt:i<kvs.length
 .refine .inr ⟨⟨hlt,hl i U H h⟩,I (i+1),λσ' H' h'=>⟨kvs.length-(i+1),by omega,rfl,hlt,h'⟩,λx H' y=>?_⟩;obtain⟨rfl,kv,hy,rfl⟩:=y;exact hs i kv U H' hy h
 .have:i=kvs.length:=by omega
  subst this;exact .inl ⟨⟨ol _,hl _ U H h⟩,hd U H h⟩
def xS (hn:z.cps.size<=1000)(I:Addr->List V->Hp->Prop)(h0:∀ D,H D=none->I D [] (upd H D (.lst [])))
  (hs:∀ D ys c H',z.cps[ys.length]? =some c->I D ys H'->te (some (.str ⟨#[c]⟩)::rest) H' (kS I D ys rest (some (.str ⟨#[c]⟩))))
  (hd:∀ D ys H',ys.length=z.cps.size->I D ys H'->Q (.ref D) H'):pF te (vh z) (none::rest) H Q:=by
 unfold pF;intro D hD;refine⟨λi m σ' H'=>m=z.cps.size-i/\i<=z.cps.size/\∃ ys x0,σ'=x0::rest/\ys.length=i/\I D ys H',⟨z.cps.size,by simp,Nat.zero_le _,[],none,rfl,rfl,h0 D hD⟩,λi m σ' H' ⟨e,hi,ys,x0,e1,e2,h⟩=>?_⟩;subst e1 e2
 by_cases hlt:ys.length<z.cps.size
 .refine .inr ⟨hlt,λσ2 H2=>∃ ys2 x2,σ2=x2::rest/\ys2.length=ys.length+1/\I D ys2 H2,λσ2 H2 ⟨ys2,x2,f1,f2,f3⟩=>⟨z.cps.size-(ys.length+1),by omega,rfl,hlt,ys2,x2,f1,f2,f3⟩,λx H'' y=>?_⟩;obtain⟨e1,c,hc,rfl⟩:=y;subst e1;have w:=hs D ys c H'' hc h;unfold kS at w;exact w
 .have:ys.length=z.cps.size:=by omega
  exact .inl ⟨Nat.le_of_eq this.symm,hd D ys H' this h⟩
end
end L3
namespace L3
open PySem PySem.Spec PySem.W L2
variable {ps:List Str}
def pI:∀ {us:List Value}{n:Str},us.length=ps.length->n ∈ ps->((ps.zip us).lookup n).isNone=false:=by
 induction ps with
 |nil=>intro us n _ h;cases h
 |cons p ps ih=>
  intro us n hl h;cases us with
  |nil=>cases hl
  |cons u us=>
   rw[zip_cons_cons,lookup_cons];cases e:n ==p with
   |true=>rfl
   |false=>
    rcases lv.mp h with rfl|h
    .rw[beq_self_eq_true]at e;cases e
    .exact ih (Nat.succ.inj hl) h
def k6:∀ {ps:List Str}{us:List Value},ps.Nodup->us.length=ps.length->∀ {L:List (Str×Value)},(∀ n ∈ ps,L.lookup n=(ps.zip us).lookup n)->ps.filterMap (λn=>(L.lookup n).map (n,·))=ps.zip us
 | [],us,_,_,L,_=>rfl
 |p::ps,[],_,hl,L,_=>by cases hl
 |p::ps,u::us,nd,hl,L,hL=>by
  have h0:L.lookup p=some u:=by rw[hL p li,zip_cons_cons,lookup_cons,beq_self_eq_true]
  rw[filterMap_cons,h0,zip_cons_cons];show(p,u)::_=_;rw[k6 (nodup_cons.mp nd).2 (Nat.succ.inj hl) (L:=L)];intro n hn;rw[hL n (dl _ hn),zip_cons_cons,lookup_cons];have:(n ==p)=false:=by
   cases e:n ==p with
   |false=>rfl
   |true=>
    have:=beq_iff_eq.mp e;subst this;exact absurd hn (nodup_cons.mp nd).1
  rw[this]
variable {fd:FuncData}
def jr (nd:ps.Nodup)(h1:fd.params.posonlyargs=[])(h2:fd.params.args.map (·.arg)=ps)(h3:fd.params.kwonlyargs=[])(h4:fd.params.vararg=none)(h5:fd.params.kwarg=none)(h6:fd.defaults=.none)(us:List Value)(hl:us.length=ps.length):
  bindArgs fd ⟨us,[]⟩=pure (ps.zip us):=by
 obtain⟨name,qual,⟨po,as,va,ko,kd,ka,df⟩,body,scope,glo,bL,dV,kV,doc,pm,an,cdv,ct,bu⟩:=fd;dsimp only at h1 h2 h3 h4 h5 h6;subst h1 h2 h3 h4 h5 h6;generalize hps:as.map (·.arg)=ps at nd hl⊢;have e1:seqItems? (Value.none)=(pure none:Sem (Option (Array Value))):=rfl;have e2:∀ f:Str->Bool,(∀ n ∈ ps,f n=false)->ps.filter f=[]:=λf h=>List.filter_eq_nil_iff.mpr λa ha=>by rw[h a ha];decide
 have e3:¬ (us.length>ps.length):=by omega
 have e4:=e2 (λn=>((ps.zip us).lookup n).isNone) λn hn=>pI hl hn
 have e5:=k6 nd hl (L:=ps.zip us) λ_ _=>rfl
 unfold bindArgs;dsimp only[List.map_nil,nil_append,append_nil];rw[hps];simp[e1,e3,e4,e5]
abbrev gD (S:List (Str×Value))(x:Str×Value):List (Str×Value):=if(S.lookup x.1).isNone=true then S++[x] else S
def uZ:∀ {L:List (Str×Value)}{S:List (Str×Value)},(∀ x ∈ L,(S.lookup x.1).isNone=false)->L.foldl gD S=S
 | [],_,_=>rfl
 |x::L,S,h=>by
  have h0:gD S x=S:=by
   unfold gD;rw[if_neg (by rw[h x li];decide)]
  rw[foldl_cons,h0];exact uZ λy hy=>h y (dl _ hy)
def uX:∀ {L:List (Str×Value)}{S:List (Str×Value)},(L.map (·.1)).Nodup->(∀ x ∈ L,S.lookup x.1=none)->L.foldl gD S=S++L
 | [],S,_,_=>by rw[append_nil];rfl
 |x::L,S,nd,h=>by
  have h0:gD S x=S++[x]:=by
   unfold gD;rw[if_pos (by rw[h x li];rfl)]
  rw[map_cons]at nd;rw[foldl_cons,h0,uX (nodup_cons.mp nd).2]
  .rw[le];rfl
  .intro y hy;have hne:(y.1 ==x.1)=false:=by
    cases e:y.1 ==x.1 with
    |false=>rfl
    |true=>
     have e:=beq_iff_eq.mp e;exact absurd (List.mem_map_of_mem (f:=(·.1)) hy) (e▸(nodup_cons.mp nd).1)
   obtain⟨a,b⟩:=x;rw[List.lookup_append,h y (dl _ hy),lookup_cons,hne]
   rfl
def vG {n:Str}:∀ {L:List (Str×Value)},(∀ x ∈ L,x.1≠n)->L.lookup n=none
 | [],_=>rfl
 |(a,b)::L,h=>by
  have:(n ==a)=false:=by
   cases e:n ==a with
   |false=>rfl
   |true=>exact absurd (beq_iff_eq.mp e).symm (h (a,b) li)
  rw[lookup_cons,this];exact vG λx hx=>h x (dl _ hx)
variable {A:List Str}{B:List Value}
def iL {x:Str×Value}(h:x ∈ A.zip B):x.1 ∈ A:=by
 obtain⟨a,b⟩:=x;exact(of_mem_zip h).1
def zip_map (h:A.length<=B.length):(A.zip B).map (·.1)=A:=List.map_fst_zip h
def ig {B:List Str}{us:List Value}(h:A.length=us.length):(A++B).zip us=A.zip us:=by
 have:=zip_append (l₁:=A) (l₂:=us) (r₁:=B) (r₂:=[]) h;rw[append_nil,List.zip_nil_right,append_nil]at this;exact this
def ud {B:List Str}{us D1 D2:List Value}(nd:(A++B).Nodup)(h1:A.length=us.length)(h2:B.length=D2.length)(h3:D1.length<=A.length):
  (((A++B).drop (A.length-D1.length)).zip (D1++D2)).foldl gD ((A++B).zip us)=(A++B).zip (us++D2):=by
 have a:=uZ (L:=(A.drop (A.length-D1.length)).zip D1) (S:=(A++B).zip us) λx hx=>by
  rw[ig h1];exact pI h1.symm (List.mem_of_mem_drop (iL hx))
 have b:=uX (L:=B.zip D2) (S:=(A++B).zip us) (by rw[zip_map nofun];exact(nodup_append.mp nd).2.1) λx hx=>by
  refine vG λy hy e=>?_
  rw[ig h1]at hy;exact(nodup_append.mp nd).2.2 y.1 (iL hy) x.1 (iL hx) e
 rw[List.drop_append_of_le_length nofun,zip_append (by rw[jp];omega),List.foldl_append,a,b,ig h1,zip_append h1]
def pW {us ds:List Value}(nd:ps.Nodup)(h1:us.length<=ps.length)(h2:ds.length<=ps.length)(h3:ps.length<=us.length+ds.length):
  ((ps.drop (ps.length-ds.length)).zip ds).foldl gD (ps.zip us)=ps.zip (us++ds.drop (us.length+ds.length-ps.length)):=by
 have nd2:(ps.take us.length++ps.drop us.length).Nodup:=by rw[take_append_drop];exact nd
 have:=ud (A:=ps.take us.length) (B:=ps.drop us.length) (us:=us) (D1:=ds.take (us.length+ds.length-ps.length)) (D2:=ds.drop (us.length+ds.length-ps.length)) nd2 (by rw[db];omega) (by rw[jp,jp];omega) (by rw[db,db];omega);rw[take_append_drop,take_append_drop,db,db]at this;rw[show min us.length ps.length-min (us.length+ds.length-ps.length) ds.length=ps.length-ds.length by omega]at this;exact this
def jg:∀ {L:List (Str×Value)}{S:List (Str×Value)},(forIn L S λx r=>(match x with|(name,d)=>if(r.lookup name).isNone=true then pure (ForInStep.yield (r++[(name,d)])) else pure (ForInStep.yield r):Sem (ForInStep (List (Str×Value)))))=pure (L.foldl gD S)
 | [],S=>by simp
 |(a,b)::L,S=>by
  rw[forIn_cons,foldl_cons,<-jg];unfold gD
  by_cases e:(S.lookup a).isNone=true
  .simp only[e,if_true,pure_bind]
  .simp only[e,if_false,pure_bind,Bool.false_eq_true]
def rJ {T:Addr}{items:Array Value}(nd:ps.Nodup)(h1:fd.params.posonlyargs=[])(h2:fd.params.args.map (·.arg)=ps)(h3:fd.params.kwonlyargs=[])(h4:fd.params.vararg=none)(h5:fd.params.kwarg=none)(h6:fd.defaults=.ref T)(us:List Value)(l1:us.length<=ps.length)(l2:items.toList.length<=ps.length)(l3:ps.length<=us.length+items.toList.length):
  ∃ k:Option (Array Value)->Sem (List (Str×Value)),bindArgs fd ⟨us,[]⟩=seqItems? fd.defaults >>= k/\k (some items)=pure (ps.zip (us++items.toList.drop (us.length+items.toList.length-ps.length))):=by
 obtain⟨name,qual,⟨po,as,va,ko,kd,ka,df⟩,body,scope,glo,bL,dV,kV,doc,pm,an,cdv,ct,bu⟩:=fd;dsimp only at h1 h2 h3 h4 h5 h6;subst h1 h2 h3 h4 h5 h6;generalize hps:as.map (·.arg)=ps at nd l1 l2 l3⊢;have e2:∀ f:Str->Bool,(∀ n ∈ ps.take (ps.length-items.toList.length),f n=false)->(ps.take (ps.length-items.toList.length)).filter f=[]:=λf h=>List.filter_eq_nil_iff.mpr λa ha=>by rw[h a ha];decide
 have e3:¬ (us.length>ps.length):=by omega
 have ez:ps.zip us=(ps.take us.length).zip us:=by
  have:=ig (A:=ps.take us.length) (B:=ps.drop us.length) (us:=us) (by rw[db];omega);rw[take_append_drop]at this;exact this
 have e4:=e2 (λn=>((ps.zip us).lookup n).isNone) λn hn=>by
  rw[ez];refine pI (by rw[db];omega) ?_;have:ps.take (ps.length-items.toList.length)=(ps.take us.length).take (ps.length-items.toList.length):=by rw[List.take_take,Nat.min_eq_left nofun]
  rw[this]at hn;exact List.mem_of_mem_take hn
 have e6:=pW (us:=us) (ds:=items.toList) nd l1 l2 l3;have e5:=k6 (us:=us++items.toList.drop (us.length+items.toList.length-ps.length)) nd (by rw[ci,jp];omega) λ_ _=>rfl
 have e7:items.toList.length-ps.length=0:=by omega
 unfold bindArgs;dsimp only[List.map_nil,nil_append,append_nil];rw[hps];refine⟨_,rfl,?_⟩;simp only[Option.getD_some,List.map_nil,nil_append,e7,drop_zero,e4,e3,List.isEmpty_nil,Bool.not_true,decide_false,Bool.false_and,Bool.false_eq_true,if_false,forIn_nil,append_nil];rw[jg,e6,pure_bind,pure_bind];simp only[e5,List.isEmpty_nil,Bool.not_true,Bool.false_eq_true,if_false]
abbrev uY (x:Option (Option Value))(a:Addr):Bool:=match x with
 |some (some (.ref b))=>b ==a
 |_=>false
variable {x:Option (Option Value)}
def c7 {a:Addr}(h:uY x a=true):x=some (some (.ref a)):=by
 unfold uY at h
 split at h
 .rw[beq_iff_eq.mp h]
 .cases h
abbrev mL (x:Option (Option Value))(a:String):Bool:=match x with
 |some (some (.builtin b))=>b ==a
 |_=>false
variable {a:String}
def ba (h:mL x a=true):x=some (some (.builtin a)):=by
 unfold mL at h
 split at h
 .rw[beq_iff_eq.mp h]
 .cases h
abbrev AJ (x:Option Value)(a:String):Bool:=match x with
 |some (.type b)=>b ==a
 |_=>false
def xK {x:Option Value}(h:AJ x a=true):x=some (.type a):=by
 unfold AJ at h
 split at h
 .rw[beq_iff_eq.mp h]
 .cases h
abbrev qC (x:Option (Option Value)):Bool:=match x with
 |some none=>true
 |_=>false
def ir (h:qC x=true):x=some none:=by
 unfold qC at h
 split at h
 .rfl
 .cases h
abbrev tf (x:Option Bool)(b:Bool):Bool:=match x with
 |some c=>c ==b
 |none=>false
def cI {x:Option Bool}{b:Bool}(h:tf x b=true):x=some b:=by
 unfold tf at h
 split at h
 .rw[beq_iff_eq.mp h]
 .cases h
abbrev AM (v:V)(x:Option (Option Value)):Bool:=match v,x with
 | .int i,some (some (.int j _))=>i ==j
 | .str s,some (some (.str s' _))=>s ==s'
 | .ref a,y=>uY y a
 |_,_=>false
def x9 {v:V}(h:AM v x=true):∃ u,x=some (some u)/\RelV v u:=by
 unfold AM at h
 split at h
 .rw[<-beq_iff_eq.mp h];exact⟨_,rfl,_,rfl⟩
 .rw[<-beq_iff_eq.mp h];exact⟨_,rfl,_,rfl⟩
 .rw[c7 h];exact⟨_,rfl,rfl⟩
 .cases h
section
variable (K:Frag) (C:Addr)
abbrev ur:Bool:=plainGet K C Str.empty&&(hasDictIn K C&&(plainOver K C&&mL (findIn K (.ref C) "__setattr__") "object.__setattr__"))
def mX {K:Frag}{C:Addr}(h:ur K C=true):ua K C:=by
 unfold ur at h;simp only[lw]at h;exact⟨h.1,h.2.1,h.2.2.1,ba h.2.2.2⟩
abbrev tR:Bool:=mL (findIn K (.ref C) "__class__") "object.__class__"&&(mL (specialIn K (.builtin "object.__class__") "__get__") "getset_descriptor.__get__"&&tf (takesIn K (.builtin "object.__class__")) true)
abbrev j9:Bool:=AJ (typeIn K (.ref C)) "type"&&((clsIn K C).any (λcd=>bR cd.mro)&&(hasDictIn K C&&(mL (findIn K (.ref C) "__getattribute__") "BaseException.__getattribute__"&&(qC (findIn K (.ref C) "__getattr__")&&mL (findIn K (.ref C) "__setattr__") "object.__setattr__"))))
def gb {K:Frag}{C:Addr}(h:j9 K C=true):bj K C:=by
 unfold j9 at h;simp only[lw]at h;exact⟨xK h.1,h.2.1,h.2.2.1,ba h.2.2.2.1,ir h.2.2.2.2.1,ba h.2.2.2.2.2⟩
end
abbrev all2 {α:Type}(l:List α)(p:α->Bool):Bool:=match l with
 | []=>true
 |a::r=>p a&&all2 r p
def ao {α:Type}{p:α->Bool}:∀ {l:List α},all2 l p=true->∀ a ∈ l,p a=true
 | [],_,_,h=>by cases h
 |a::r,h,b,hb=>by
  unfold all2 at h;rw[lw]at h;rcases lv.mp hb with rfl|hb
  .exact h.1
  .exact ao h.2 b hb
abbrev xf (K:Frag)(fs cs:List Addr)(gs:List (Str×V)):Rt:=⟨K,λi=>fs.getD i 0,λi=>cs.getD i 0,λx=>gs.lookup x⟩
section
variable (K:Frag) (T:Tab) (fs cs:List Addr) (gs:List (Str×V))
abbrev uJ:Bool:=
 (all2 T.gfn (λp=>uY (nsIn K mainGlobals p.1) (fs.getD p.2 0)&&(keepIn K (.ref (fs.getD p.2 0))&&(T.fns[p.2]?).isSome))&&
 (all2 T.gcl (λp=>uY (nsIn K mainGlobals p.1) (cs.getD p.2 0))&&
 (all2 T.gbl (λx=>qC (nsIn K mainGlobals x)&& !(x ==("__name__":Str)))&&
 (all2 T.gbi (λx=>match nsIn K mainGlobals x with
  |some (some (.ref B))=>mL (specialIn K (.ref B) "__getattribute__") "type.__getattribute__"&&(readsIn K B (.type "type")&&(match findCls K (.ref B) (.type "type") "__init__" with|some (.val (.builtin n))=>n =="ValueError.__init__"|_=>false))
  |_=>false)&&
 (all2 gs (λp=>AM p.2 (nsIn K mainGlobals p.1))&&
 (all2 T.na (λp=>qC (findIn K (.ref (cs.getD p.1 0)) p.2))&&
 (all2 T.me (λp=>ur K (cs.getD p.1.1 0)&&(uY (findIn K (.ref (cs.getD p.1.1 0)) p.1.2) (fs.getD p.2 0)&&(isFn K (.ref (fs.getD p.2 0))&&(keepIn K (.ref (fs.getD p.2 0))&&(T.fns[p.2]?).isSome)))))))))))&&
 (all2 T.ini0 (λc=>aY K (cs.getD c 0)&&(mL (findIn K (.ref (cs.getD c 0)) "__init__") "ValueError.__init__"&&(keepIn K (.ref (cs.getD c 0))&&j9 K (cs.getD c 0))))&&
 (all2 T.inip (λc=>makesIn K (cs.getD c 0)&&(mL (findIn K (.ref (cs.getD c 0)) "__init__") "object.__init__"&&keepIn K (.ref (cs.getD c 0))))&&
 (all2 T.ini (λp=>(T.fns[p.2]?).isSome&&((if T.xc.contains p.1=true then aY K (cs.getD p.1 0) else makesIn K (cs.getD p.1 0))&&(uY (findIn K (.ref (cs.getD p.1 0)) "__init__") (fs.getD p.2 0)&&(isFn K (.ref (fs.getD p.2 0))&&keepIn K (.ref (cs.getD p.1 0))))))&&
 (all2 T.oc (λc=>ur K (cs.getD c 0)&&(tR K (cs.getD c 0)&&tf (mroIn K (cs.getD c 0) (.type "object")) true))&&
 (all2 T.xc (λc=>j9 K (cs.getD c 0)&&tR K (cs.getD c 0))&&
 (all2 T.sub (λp=>tf (kitOne K (.ref (cs.getD p.1.1 0)) (.ref (cs.getD p.1.2 0))) p.2&&(!T.xc.contains p.1.1||(tf (mroIn K (cs.getD p.1.1 0) (.ref (cs.getD p.1.2 0))) p.2&&j9 K (cs.getD p.1.2 0))))&&
 (all2 T.subT (λp=>tf (kitOne K (.ref (cs.getD p.1.1 0)) (.type p.1.2)) p.2)&&
 (all2 T.subB (λp=>tf (kitOne K (.type p.1.1) (.type p.1.2)) p.2)&&
 (all2 T.subO (λp=>tf (kitOne K (.type p.1.1) (.ref (cs.getD p.1.2 0))) p.2)&&
  all2 T.cin (λp=>mL (specialIn K (.ref (cs.getD p.1 0)) "__getattribute__") "type.__getattribute__"&&(readsIn K (cs.getD p.1 0) (.type "type")&&((match findCls K (.ref (cs.getD p.1 0)) (.type "type") "__init__" with|some (.val (.ref f))=>f ==fs.getD p.2 0|_=>false)&&(keepIn K (.ref (fs.getD p.2 0))&&(T.fns[p.2]?).isSome)))))))))))))
end
def fA {α:Type}{x:Option α}(h:x.isSome=true):∃ d,x=some d:=Option.isSome_iff_exists.mp h
variable {K:Frag}{T:Tab}{fs:List Addr}{gs:List (Str×V)}{mg:CF}
def sF {cs:List Addr}{h:Heap}(X:K.In h)(G:h.Ns mainGlobals mg)(z:uJ K T fs cs gs=true):su K mg T (xf K fs cs gs):=by
 unfold uJ at z;simp only[lw]at z;obtain⟨⟨z1,z2,z3,z4,z5,z6,z7⟩,z8,z9,z10,z11,z12,z13,z14,z15,z16,z17⟩:=z;exact {
  gfn:=fL λp hp=>by
   have:=ao z1 p hp;simp only[lw]at this;exact⟨mg_of X G (c7 this.1),this.2.1,fA this.2.2⟩
  gcl:=fL λp hp=>mg_of X G (c7 (ao z2 p hp))
  gbl:=eo λx hx=>by
   have:=ao z3 x hx;simp only[lw]at this;exact⟨mg_none_of X G (ir this.1),by simpa using this.2⟩
  gbi:=eo λx hx=>by
   have:=ao z4 x hx
   split at this
   .rename_i B e;simp only[lw]at this;refine⟨B,mg_of X G e,ba this.1,this.2.1,?_⟩;have t:=this.2.2
    split at t
    .rename_i n e2;rw[e2,beq_iff_eq.mp t]
    .cases t
   .cases this
  gl:=fL λp hp=>by
   obtain⟨u,e,r⟩:=x9 (ao z5 p hp);exact⟨u,mg_of X G e,r⟩
  na:=tU λp hp=>ir (ao z6 p hp)
  me:=dG λp hp=>by
   have:=ao z7 p hp;simp only[lw]at this;exact⟨mX this.1,⟨c7 this.2.1,this.2.2.1,this.2.2.2.1⟩,fA this.2.2.2.2⟩
  ini0:=eo λc hc=>by
   have:=ao z8 c hc;simp only[lw]at this;exact⟨this.1,ba this.2.1,this.2.2.1,gb this.2.2.2⟩
  inip:=eo λc hc=>by
   have:=ao z9 c hc;simp only[lw]at this;exact⟨this.1,ba this.2.1,this.2.2⟩
  ini:=fL λp hp=>by
   have:=ao z10 p hp;simp only[lw]at this;refine⟨fA this.1,?_⟩;have t:=this.2
   by_cases e:T.xc.contains p.1=true
   .rw[if_pos e]at t⊢;exact⟨t.1,c7 t.2.1,t.2.2.1,t.2.2.2⟩
   .rw[if_neg e]at t⊢;exact⟨t.1,c7 t.2.1,t.2.2.1,t.2.2.2⟩
  oc:=eo λc hc=>by
   have:=ao z11 c hc;simp only[tR,lw]at this;exact⟨mX this.1,ba this.2.1.1,ba this.2.1.2.1,cI this.2.1.2.2,cI this.2.2⟩
  xc:=eo λc hc=>by
   have:=ao z12 c hc;simp only[tR,lw]at this;exact⟨gb this.1,ba this.2.1,ba this.2.2.1,cI this.2.2.2⟩
  sub:=dG λp hp=>by
   have:=ao z13 p hp;simp only[lw]at this;refine⟨cI this.1,λe=>?_⟩;have t:=this.2;rw[e,Bool.not_true,Bool.false_or,lw]at t;exact⟨cI t.1,gb t.2⟩
  subT:=dG λp hp=>cI (ao z14 p hp)
  subB:=dG λp hp=>cI (ao z15 p hp)
  subO:=dG λp hp=>cI (ao z16 p hp)
  cin:=fL λp hp=>by
   have:=ao z17 p hp;simp only[lw]at this;refine⟨⟨ba this.1,this.2.1,?_,this.2.2.2.1⟩,fA this.2.2.2.2⟩;have t:=this.2.2.1
   split at t
   .rename_i f e2;rw[beq_iff_eq.mp t]at e2;exact e2
   .cases t }
abbrev Au:List Str->Bool
 | []=>true
 |a::r=>!r.contains a&&Au r
def rh:∀ {l:List Str},Au l=true->l.Nodup
 | [],_=>List.nodup_nil
 |a::r,h=>by
  unfold Au at h;rw[lw]at h;exact nodup_cons.mpr ⟨by simpa using h.1,rh h.2⟩
abbrev AN (N P:List Str)(sc:Scope):Bool:=decide (sc.kind=.function)&&(!sc.isCoroutine&&(!sc.isGenerator&&(Au N&&(N.take P.length ==P&&(all2 P (λx=>match sc.names.lookup x with|some .local=>true|some .cell=>true|_=>false)&&all2 sc.names (λy=>match y.2 with| .free=>false|_=>true))))))
def kQ {N P:List Str}{sc:Scope}(h:AN N P sc=true):fB N P sc:=by
 unfold AN at h;simp only[lw,decide_eq_true_eq]at h;refine⟨h.1,by simpa using h.2.1,by simpa using h.2.2.1,rh h.2.2.2.1,beq_iff_eq.mp h.2.2.2.2.1,λx hx=>?_,λy hy e=>?_⟩
 .have:=ao h.2.2.2.2.2.1 x hx
  split at this
  .rename_i e;exact .inl e
  .rename_i e;exact .inr e
  .cases this
 .have:=ao h.2.2.2.2.2.2 y hy;rw[e]at this;cases this
abbrev BA:V->Value->Bool
 | .non,.none=>true
 | .bl b,.bool c=>b ==c
 | .int i,.int j _=>i ==j
 | .str s,.str s' _=>s ==s'
 |_,_=>false
def xM {v:V}{u:Value}(h:BA v u=true):RelV v u:=by
 unfold BA at h
 split at h
 .rfl
 .rw[beq_iff_eq.mp h];rfl
 .rw[beq_iff_eq.mp h];exact⟨_,rfl⟩
 .rw[beq_iff_eq.mp h];exact⟨_,rfl⟩
 .cases h
abbrev pR:List V->List Value->Bool
 | [],[]=>true
 |v::vs,u::us=>BA v u&&pR vs us
 |_,_=>false
def i6:∀ {vs:List V}{us:List Value},pR vs us=true->Vals vs us
 | [],[],_=>.nil
 |v::vs,u::us,h=>by
  unfold pR at h;rw[lw]at h;exact .cons (xM h.1) (i6 h.2)
 | [],_::_,h=>by cases h
 |_::_,[],h=>by cases h
abbrev AG (K:Frag)(fd:FuncData)(d:aE):Bool:=match fd.defaults with
 | .none=>d.dfl.isEmpty
 | .ref T=>!d.dfl.isEmpty&&(match K.lookup T with
  |some o=>(match o.data with| .seq items _=>pR d.dfl items.toList&&decide (items.toList.length<=d.ps.length)|_=>false)
  |none=>false)
 |_=>false
abbrev vA (K:Frag)(T:Tab)(f:Addr)(d:aE):Bool:=match K.lookup f with
 |some ⟨_,_,.func fd,_⟩=>(match fd.body with
  | .stmts body=>decide (fd.globals=mainGlobals)&&(fd.closure.isEmpty&&(decide (fd.builtins=builtinsNs)&&(codeIn K fd.code fd.qualname&&(AN d.N d.ps fd.scope&&(mB ⟨T,fd.scope,d.N⟩ d.body body&&
   (fd.params.posonlyargs.isEmpty&&(fd.params.args.map (·.arg) ==d.ps&&(fd.params.kwonlyargs.isEmpty&&(fd.params.vararg.isNone&&(fd.params.kwarg.isNone&&AG K fd d))))))))))
  |_=>false)
 |_=>false
variable {d:aE}
def vQ {f:Addr}(h:vA K T f d=true):nj K T f d:=by
 unfold vA at h
 split at h
 .rename_i oc od fd sl e;obtain⟨name,qual,params,body,scope,glo,bL,dV,kV,doc,pm,an,cdv,ct,bu⟩:=fd;dsimp only at h
  split at h
  .rename_i body;simp only[lw,decide_eq_true_eq,isEmpty_iff,Option.isNone_iff_eq_none]at h;obtain⟨h1,h2,h3,h4,h5,h6,h7,h8,h9,h10,h11,h12⟩:=h;subst h1 h2 h3;have S:=kQ h5;have nd:d.ps.Nodup:=by
    rw[<-S.pre];exact S.nd.sublist (take_sublist _ _)
   refine⟨⟨name,qual,params,body,scope,dV,kV,doc,pm,cdv,ct,oc,od,an,sl,e,h4,S,h6,?_⟩⟩;unfold AG at h12;dsimp only at h12
   split at h12
   .rw[isEmpty_iff.mp h12];exact yi (.all λus hl=>jr nd h7 (beq_iff_eq.mp h8) h9 h10 h11 rfl us hl)
   .rename_i T0;rw[lw]at h12;have h12:=h12.2
    split at h12
    .rename_i o ho
     split at h12
     .rename_i items c hs;rw[lw,decide_eq_true_eq]at h12;intro j;refine⟨items.toList.drop j,?_,gO j (i6 h12.1)⟩;refine uo (n:=d.ps.length-(items.toList.drop j).length) rfl ho hs (by rw[jp];omega) λus hl=>?_
      rw[jp]at hl;obtain⟨k,k1,k2⟩:=rJ (fd:=fnOf name qual params body scope (.ref T0) kV doc pm an cdv ct) (items:=items) nd h7 (beq_iff_eq.mp h8) h9 h10 h11 rfl us nofun h12.2 nofun;refine⟨k,k1,?_⟩;rw[k2]
      by_cases e:j<=items.toList.length
      .rw[show us.length+items.toList.length-d.ps.length=j by omega]
      .rw[show us.length+items.toList.length-d.ps.length=items.toList.length by omega,List.drop_length,List.drop_eq_nil_of_le (by omega:items.toList.length<=j)]
     .cases h12
    .cases h12
   .cases h12
  .cases h
 .cases h
abbrev gr (K:Frag)(T:Tab)(fs:List Addr):Nat->List aE->Bool
 |_,[]=>true
 |n,d::r=>vA K T (fs.getD n 0) d&&gr K T fs (n+1) r
def l8 {K:Frag}{T:Tab}{fs:List Addr}:∀ {l:List aE}{n:Nat},gr K T fs n l=true->mz (λf d=>nj K T (fs.getD f 0) d) n l
 | [],_,_=>True.intro
 |d::r,n,h=>by
  unfold gr at h;rw[lw]at h;exact⟨vQ h.1,l8 h.2⟩
def sV (h:gr K T fs 0 T.fns=true):∀ f d,T.fns[f]? =some d->nj K T (fs.getD f 0) d:=kC (P:=λf d=>nj K T (fs.getD f 0) d) (l8 h)
def mW {K:Frag}{T:Tab}{fs:List Addr}:∀ {l:List aE}{n f:Nat}{d:aE},gr K T fs n l=true->l[f]? =some d->vA K T (fs.getD (n+f) 0) d=true
 | [],_,_,_,_,e=>by simp at e
 |a::r,n,0,d,h,e=>by
  unfold gr at h;rw[lw]at h;have:a=d:=by simpa using e
  subst this;exact h.1
 |a::r,n,f+1,d,h,e=>by
  unfold gr at h;rw[lw]at h;have:=mW h.2 (f:=f) (d:=d) (by simpa using e)
  rwa [Nat.add_assoc,Nat.add_comm 1 f]at this
def t7 {fl:Nat}(z:gr K T fs 0 T.fns=true)(hd:T.fns[fl]? =some d)(hp:d.ps=[("_law_script":Str)]) (hf:d.dfl=[]):
  ∃ oc od fd sl,K.lookup (fs.getD fl 0)=some ⟨oc,od,.func fd,sl⟩/\∀ (s:Shared) (v:Value),BindsTo s fd ⟨[v],[]⟩ [("_law_script",v)]:=by
 have h:=mW z hd;rw[Nat.zero_add]at h;unfold vA at h
 split at h
 .rename_i oc od fd sl e;refine⟨oc,od,fd,sl,e,λs v=>?_⟩
  split at h
  .rename_i body hb;simp only[lw,decide_eq_true_eq,isEmpty_iff,Option.isNone_iff_eq_none]at h;obtain⟨h1,h2,h3,h4,h5,h6,h7,h8,h9,h10,h11,h12⟩:=h;have nd:d.ps.Nodup:=by
    rw[<-(kQ h5).pre];exact(kQ h5).nd.sublist (take_sublist _ _)
   unfold AG at h12;rw[hf]at h12;have e6:fd.defaults=.none:=by
    split at h12
    .rename_i e;exact e
    .rw[lw]at h12;cases h12.1
    .cases h12
   have:=jr nd h7 (beq_iff_eq.mp h8) h9 h10 h11 e6 [v] (by rw[hp];rfl);rw[hp]at this;exact .of_eq this
  .cases h
 .cases h
def tF {P:Program}{w:World}{h:Heap}{fa:Addr}{cs:List Addr}{fl k:Nat}(X:K.In h)(G:h.Ns mainGlobals mg)(hfa:mg "law"=some (.ref fa))
  (z1:uJ K T fs cs gs=true) (z2:gr K T fs 0 T.fns=true) (z3:uY (nsIn K mainGlobals "law") (fs.getD fl 0)=true) (hd:T.fns[fl]? =some d) (hp:d.ps=[("_law_script":Str)]) (hf:d.dfl=[])
  (ht:∀ vs H Q E,eG K 63 vs H Q E->ae T (xf K fs cs gs) k fl vs H Q E):
  ∃ fd:FuncData,(∀ (s:Shared) (v:Value),BindsTo s fd ⟨[v],[]⟩ [("_law_script",v)])/\∀ base:Heap,K.In base->base.Ns mainGlobals mg->bI P w K mg base (qY P w) (2*k) fa fd ["_law_script"] (eG K 63):=by
 have e0:fs.getD fl 0=fa:=by
  have e:=hfa.symm.trans (mg_of X G (c7 z3))
  injection e with e
  injection e with e
  exact e.symm
 have fn:=sV z2;have tk:=sF X G z1;have N:=fn fl d hd;have hN:=t7 z2 hd;obtain⟨oc,od,fd,sl,e,hb⟩:=hN hp hf;refine⟨fd,hb,λbase hb hg=>?_⟩;have F:=xT (P:=P) (w:=w) (base:=base) (R:=xf K fs cs gs) tk rfl fn k fl d hd (fd:=fd) (lk:=e) (jm▸ht);rw[hp]at F;rw[<-e0];exact F
abbrev B5 (K:Frag)(a:Addr)(vs:List V):Bool:=match K.lookup a with
 |some ⟨.type t,_,.seq items _,_⟩=>t =="tuple"&&(decide (items.size<=1000)&&pR vs items.toList)
 |_=>false
def yl {a:Addr}{vs:List V}(h:B5 K a vs=true)(H:Hp):cV K H a vs:=by
 unfold B5 at h
 split at h
 .rename_i t od items n sl e;simp only[lw,decide_eq_true_eq]at h;refine .inr ⟨_,items,n,e,?_,rfl,?_,i6 h.2.2⟩
  .show Value.type t=_;rw[beq_iff_eq.mp h.1]
  .exact Nat.le_of_lt (bK h.2.1)
 .cases h
end L3
namespace L3
open PySem L2
noncomputable abbrev dm.c (e:Ex)(r:dm):dm:=.cons e r
noncomputable abbrev dm.n:dm:=.nil
noncomputable abbrev fV.c (e:Sx)(r:fV):fV:=.cons e r
noncomputable abbrev fV.n:fV:=.nil
noncomputable abbrev sq.c (a b:Nat)(e:fV)(r:sq):sq:=.cons a b e r
noncomputable abbrev sq.n:sq:=.nil
noncomputable abbrev Ex.i (x:Int):Ex:=.int x
noncomputable abbrev Ex.s (x:Str):Ex:=.str x
noncomputable abbrev Ex.k (x:Nat)(e:dm):Ex:=.call x e
noncomputable abbrev Ex.m (a:Ex)(x:Str)(e:dm):Ex:=.meth a x e
noncomputable abbrev Ex.f (c:Tx)(a b:Ex):Ex:=.ife c a b
noncomputable abbrev Ex.q (o:CmpOp)(a b:Ex):Ex:=.cmp o a b
noncomputable abbrev Tx.q (o:CmpOp)(a b:Ex):Tx:=.cmp o a b
noncomputable abbrev Sx.a (x:Nat)(e:Ex):Sx:=.asg x e
noncomputable abbrev Sx.r (e:Ex):Sx:=.ret e
noncomputable abbrev Sx.f (c:Tx)(a b:fV):Sx:=.ife c a b
noncomputable abbrev Sx.e (e:Ex):Sx:=.expr e
end L3
set_option Elab.async false
set_option maxHeartbeats 8000000
open PySem PySem.Spec L2 L3
namespace My
open PySem L2 L3
set_option hygiene false
local macro_rules|`(#[])=>`(.n)|`(#[$x:term])=>`(.c $x .n)|`(#[$x:term,$xs:term,*])=>`(.c $x #[$xs,*])
set_option hygiene true
abbrev dq:aE:=⟨["self","word"],["self","word"],[],#[.e (.bini #[.v 0,.s "a deed can't be made of this"]),.fld (.v 0) "word" (.v 1)]⟩
abbrev dU:aE:=⟨["self","word"],["self","word"],[],#[.e (.bini #[.v 0,.s "no name, or a name that is taken or unknown"]),.fld (.v 0) "word" (.v 1)]⟩
abbrev gf:aE:=⟨["thing"],["thing"],[],#[.r (.and (.isi (.v 0) (.ty "int")) (.not (.isi (.v 0) (.ty "bool"))))]⟩
abbrev jA:aE:=⟨["thing"],["thing"],[],#[.r (.and (.isi (.v 0) (.ty "str")) (.q .In (.v 0) (.gl "NAMES")))]⟩
abbrev eZ:aE:=⟨["thing"],["thing"],[],#[.r (.and (.k 2 #[.v 0]) (.cmp2 .LtE .LtE (.neg (.gl "BOUND")) (.v 0) (.gl "BOUND")))]⟩
abbrev eI:aE:=⟨["word","box"],["word","box"],[],#[.f (.not (.val (.k 3 #[.v 1]))) #[.rais (.make 1 #[.v 0])] .n]⟩
abbrev cx:aE:=⟨["word","number"],["word","number"],[],#[.f (.not (.val (.k 4 #[.v 1]))) #[.rais (.make 1 #[.v 0])] .n]⟩
abbrev cK:aE:=⟨["self","box","number"],["self","box","number"],[],#[.e (.k 5 #[.s "set",.v 1]),.e (.k 6 #[.s "set",.v 2]),.fld (.v 0) "box" (.v 1),.fld (.v 0) "number" (.v 2)]⟩
abbrev cy:aE:=⟨["self","box","number"],["self","box","number"],[],#[.e (.k 5 #[.s "add",.v 1]),.e (.k 6 #[.s "add",.v 2]),.fld (.v 0) "box" (.v 1),.fld (.v 0) "number" (.v 2)]⟩
abbrev bW:aE:=⟨["self","box","other"],["self","box","other"],[],#[.e (.k 5 #[.s "take",.v 1]),.e (.k 5 #[.s "take",.v 2]),.fld (.v 0) "box" (.v 1),.fld (.v 0) "other" (.v 2)]⟩
abbrev b9:aE:=⟨["self","box"],["self","box"],[],#[.e (.k 5 #[.s "read",.v 1]),.fld (.v 0) "box" (.v 1)]⟩
abbrev bJ:aE:=⟨["self","box"],["self","box"],[],#[.e (.k 5 #[.s "write",.v 1]),.fld (.v 0) "box" (.v 1)]⟩
abbrev gL:aE:=⟨["thing"],["thing"],[],#[.r (.and (.k 2 #[.v 0]) (.cmp2 .LtE .LtE (.i 0) (.v 0) (.gl "MOST_HOPPED")))]⟩
abbrev lW:aE:=⟨["thing"],["thing"],[],#[.r (.or (.q .Is (.v 0) .non) (.and (.k 2 #[.v 0]) (.or (.q .Eq (.v 0) (.i 0)) (.q .Eq (.v 0) (.i 1)))))]⟩
abbrev cE:aE:=⟨["self","many","on"],["self","many","on"],[.non],#[.f (.or (.not (.val (.k 12 #[.v 1]))) (.not (.val (.k 13 #[.v 2])))) #[.rais (.make 1 #[.s "hop"])] .n,.fld (.v 0) "many" (.v 1),.fld (.v 0) "on" (.v 2)]⟩
abbrev cZ:aE:=⟨["self","name"],["self","name"],[],#[.fld (.v 0) "called" (.v 1)]⟩
abbrev bN:aE:=⟨["self","many","block"],["self","many","block"],[],#[.fld (.v 0) "many" (.v 1),.fld (.v 0) "block" (.bf .list #[.v 2])]⟩
abbrev aZ:aE:=⟨["self","on","block","other"],["self","on","block","other"],[.non],#[.fld (.v 0) "on" (.v 1),.fld (.v 0) "block" (.bf .list #[.v 2]),.fld (.v 0) "other" (.f (.q .Is (.v 3) .non) (.lst .n) (.bf .list #[.v 3]))]⟩
abbrev gI:aE:=⟨["thing"],["thing"],[],#[.f (.or (.not (.val (.isi (.v 0) (.ty "str")))) (.not (.cmp2 .LtE .LtE (.i 1) (.bf .len #[.v 0]) (.gl "LONGEST_NAME")))) #[.r (.bl false)] .n,.r (.bf .all #[.lc (.q .In (.v 0) (.gl "LETTERS")) [] (.seq (.v 0))])]⟩
abbrev cX:aE:=⟨["book","block"],["book","block","item"],[],#[.for (.nm 2) (.seq (.v 1)) #[.f (.and (.val (.isi (.v 2) (.own 10))) (.not (.val (.m (.v 0) "has" #[.fld (.v 2) "called"])))) #[.rais (.make 2 #[.fld (.v 2) "called"])] .n,.f (.val (.isiT (.v 2) [11,12])) #[.e (.k 19 #[.v 0,.fld (.v 2) "block"])] .n,.f (.val (.isi (.v 2) (.own 12))) #[.e (.k 19 #[.v 0,.fld (.v 2) "other"])] .n]]⟩
abbrev dW:aE:=⟨["book","item"],["book","item"],[],#[.f (.val (.isi (.v 1) (.own 10))) #[.r (.m (.v 0) "count_named" #[.fld (.v 1) "called"])] .n,.f (.val (.isi (.v 1) (.own 11))) #[.r (.bin .Mult (.fld (.v 1) "many") (.k 22 #[.v 0,.fld (.v 1) "block"]))] .n,.f (.val (.isi (.v 1) (.own 12))) #[.r (.k 21 #[.v 0,.v 1])] .n,.r (.i 1)]⟩
abbrev dz:aE:=⟨["book","when"],["book","when","many"],[],#[.a 2 (.bin .Add (.i 1) (.k 22 #[.v 0,.fld (.v 1) "block"])),.f (.q .Eq (.bf .len #[.fld (.v 1) "other"]) (.i 0)) #[.r (.v 2)] .n,.r (.bin .Add (.bin .Add (.v 2) (.i 1)) (.k 22 #[.v 0,.fld (.v 1) "other"]))]⟩
abbrev cY:aE:=⟨["book","block"],["book","block"],[],#[.r (.bf .sum #[.lc (.k 20 #[.v 1,.v 0]) [0] (.seq (.v 1))])]⟩
abbrev cb:aE:=⟨["self"],["self"],[],#[.fld (.v 0) "blocks" .dnew,.fld (.v 0) "counts" .dnew]⟩
abbrev fR:aE:=⟨["self","word"],["self","word"],[],#[.r (.q .In (.v 1) (.fld (.v 0) "blocks"))]⟩
abbrev eJ:aE:=⟨["self","word","block"],["self","word","block"],[],#[.f (.or (.not (.val (.k 18 #[.v 1]))) (.val (.m (.v 0) "has" #[.v 1]))) #[.rais (.make 2 #[.v 1])] .n,.e (.k 19 #[.v 0,.v 2]),.sub (.fld (.v 0) "counts") (.v 1) (.k 22 #[.v 0,.v 2]),.sub (.fld (.v 0) "blocks") (.v 1) (.bf .list #[.v 2])]⟩
abbrev bh:aE:=⟨["self","word"],["self","word"],[],#[.r (.ix (.fld (.v 0) "counts") (.v 1))]⟩
abbrev f7:aE:=⟨["book","block"],["book","block"],[],#[.e (.k 19 #[.v 0,.v 1]),.r (.k 22 #[.v 0,.v 1])]⟩
abbrev fe:aE:=⟨["_law_script"],["_law_script","_law_cells","_law_fold","_law_cell"],[],#[.a 1 (.bf .list #[.sl (.v 0) .no (.yes (.i 63))]),.a 2 (.bf .len #[.v 1]),.for (.nm 3) (.seq (.v 1)) #[.a 2 (.bin .Mod (.bin .Add (.bin .Add (.bin .Mult (.v 2) (.i 48271)) (.bin .Mod (.v 3) (.i 2147483647))) (.i 1)) (.i 2147483629))],.r (.lst #[.v 1,.v 2,.i 0,.i 0,.i 0])]⟩
abbrev eL:aE:=⟨["_law_hand_here","_law_many"],["_law_hand_here","_law_many","_law_rest","_law_cell","_law_one","_law_two"],[],#[.augS (.v 0) (.i 4) .Add (.i 1),.a 2 (.ix (.v 0) (.i 3)),.a 3 (.ix (.v 0) (.i 1)),.f (.q .Gt (.v 2) (.i 0)) #[.sub (.v 0) (.i 3) (.bin .FloorDiv (.v 2) (.v 1)),.r (.bin .Mod (.v 2) (.v 1))] .n,.f (.q .Lt (.ix (.v 0) (.i 2)) (.bf .len #[.ix (.v 0) (.i 0)])) #[.a 3 (.ix (.ix (.v 0) (.i 0)) (.ix (.v 0) (.i 2))),.augS (.v 0) (.i 2) .Add (.i 1),.f (.q .GtE (.v 3) (.bin .Pow (.i 10) (.i 18))) #[.sub (.v 0) (.i 3) (.bin .FloorDiv (.v 3) (.v 1)),.r (.bin .Mod (.v 3) (.v 1))] .n] .n,.a 4 (.bin .Mod (.bin .Pow (.bin .Add (.bin .Mod (.v 3) (.i 998244353)) (.bin .Mult (.i 7919) (.ix (.v 0) (.i 4)))) (.i 5)) (.i 2147483647)),.a 5 (.bin .Mod (.bin .Pow (.bin .Add (.bin .Add (.v 4) (.bin .Mult (.i 104729) (.ix (.v 0) (.i 4)))) (.ix (.v 0) (.i 1))) (.i 3)) (.i 2147483629)),.r (.bin .Mod (.bin .FloorDiv (.v 5) (.i 7)) (.v 1))]⟩
abbrev eU:aE:=⟨["_law_hand_here","_law_size"],["_law_hand_here","_law_size","_law_way","_law_names","_law_box","_law_pick"],[],#[.a 2 (.k 29 #[.v 0,.i 14]),.a 3 (.lst #[.s "here",.s "there",.s "left",.s "way",.s "sign",.s "met"]),.a 4 (.ix (.v 3) (.k 29 #[.v 0,.i 6])),.f (.q .Lt (.v 2) (.i 6)) #[.r (.tup #[.ix (.lst #[.s "copy",.s "fill",.s "seek",.s "match",.s "shift",.s "turn"]) (.v 2)])] .n,.f (.q .Lt (.v 2) (.i 9)) #[.a 4 (.ix (.lst #[.s "here",.s "there",.s "left",.v 4]) (.k 29 #[.v 0,.i 4])),.a 5 (.bin .FloorDiv (.k 29 #[.v 0,.i 8]) (.i 3)),.r (.tup #[.s "set",.v 4,.ix (.lst #[.k 29 #[.v 0,.bin .Add (.v 1) (.i 1)],.bin .Sub (.k 29 #[.v 0,.i 5]) (.i 2),.bin .Sub (.bin .Pow (.i 10) (.i 9)) (.k 29 #[.v 0,.i 2])]) (.v 5)])] .n,.f (.q .Eq (.v 2) (.i 9)) #[.a 5 (.bin .FloorDiv (.k 29 #[.v 0,.i 7]) (.i 3)),.r (.tup #[.s "add",.v 4,.ix (.lst #[.bin .Sub (.k 29 #[.v 0,.i 7]) (.i 3),.k 29 #[.v 0,.bin .Add (.v 1) (.i 1)],.neg (.bin .Pow (.i 10) (.i 9))]) (.v 5)])] .n,.f (.q .Eq (.v 2) (.i 10)) #[.r (.tup #[.s "take",.v 4,.ix (.v 3) (.k 29 #[.v 0,.i 6])])] .n,.f (.q .Lt (.v 2) (.i 13)) #[.r (.tup #[.ix (.lst #[.s "read",.s "write"]) (.bin .Sub (.v 2) (.i 11)),.v 4])] .n,.r (.tup #[.s "hop",.k 29 #[.v 0,.i 4],.ix (.lst #[.non,.i 0,.i 1]) (.k 29 #[.v 0,.i 3])])]⟩
abbrev eX:aE:=⟨["_law_spec_here"],["_law_spec_here","_law_word"],[],#[.a 1 (.ix (.v 0) (.i 0)),.f (.q .Eq (.v 1) (.s "set")) #[.r (.make 4 #[.ix (.v 0) (.i 1),.ix (.v 0) (.i 2)])] .n,.f (.q .Eq (.v 1) (.s "add")) #[.r (.make 5 #[.ix (.v 0) (.i 1),.ix (.v 0) (.i 2)])] .n,.f (.q .Eq (.v 1) (.s "take")) #[.r (.make 6 #[.ix (.v 0) (.i 1),.ix (.v 0) (.i 2)])] .n,.f (.q .Eq (.v 1) (.s "read")) #[.r (.make 7 #[.ix (.v 0) (.i 1)])] .n,.f (.q .Eq (.v 1) (.s "write")) #[.r (.make 8 #[.ix (.v 0) (.i 1)])] .n,.f (.q .Eq (.v 1) (.s "hop")) #[.r (.make 9 #[.ix (.v 0) (.i 1),.ix (.v 0) (.i 2)])] .n,.r (.k 32 #[.v 1])]⟩
abbrev fc:aE:=⟨["_law_word"],["_law_word","_law_made"],[],#[.a 1 (.lst #[.mk0 14,.mk0 15,.mk0 16,.mk0 17,.mk0 18,.mk0 19]),.r (.ix (.v 1) (.lix (.lst #[.s "copy",.s "fill",.s "seek",.s "match",.s "shift",.s "turn"]) (.v 0)))]⟩
abbrev dZ:aE:=⟨["_law_thing"],["_law_thing"],[],#[.r (.and (.isi (.v 0) (.ty "int")) (.not (.isi (.v 0) (.ty "bool"))))]⟩
abbrev bA:aE:=⟨["_law_hand_here","_law_told"],["_law_hand_here","_law_told","_law_way","_law_found","_law_size","_law_free"],[],#[.a 2 (.k 29 #[.v 0,.i 3]),.a 3 (.ix (.lst #[.s "do",.s "else",.s "when",.s "times",.s "set",.s "rows",.s "and",.s "a"]) (.k 29 #[.v 0,.i 8])),.f (.q .Gt (.v 2) (.i 0)) #[.a 4 (.bin .Add (.i 1) (.k 29 #[.v 0,.i 8])),.a 3 (.sm .join (.s "") (.lc (.ix (.s "abcdefghijklmnopqrstuvwxyz") (.k 29 #[.v 1,.i 26])) [0] (.rng1 (.v 4))))] .n,.a 5 (.lci (.bin .Add (.s "q") (.v 0)) (.q .NotIn (.bin .Add (.s "q") (.v 0)) (.v 1)) [1] (.seq (.s "abcdefgh"))),.r (.ix (.lst #[.v 3,.ix (.v 5) (.i 0)]) (.bf .int #[.q .In (.v 3) (.v 1)]))]⟩
abbrev cG:aE:=⟨["_law_block_here"],["_law_block_here"],[],#[.r (.bf .all #[.lc (.and (.q .Eq (.ix (.v 0) (.i 0)) (.s "times")) (.or (.q .Eq (.ix (.v 0) (.i 1)) (.i 0)) (.k 35 #[.ix (.v 0) (.i 2)]))) [] (.seq (.v 0))])]⟩
abbrev aC:aE:=⟨["_law_hand_here","_law_told","_law_deep","_law_most"],["_law_hand_here","_law_told","_law_deep","_law_most","_law_found","_law_some","_law_k","_law_way","_law_pick","_law_many","_law_inner","_law_on","_law_further","_law_block_here"],[],#[.a 4 (.lst .n),.a 5 (.bin .Mult (.v 1) (.bf .int #[.q .Gt (.v 2) (.i 3)])),.for (.nm 6) (.rng1 (.k 29 #[.v 0,.bin .Add (.v 3) (.i 1)])) #[.a 7 (.k 29 #[.v 0,.i 9]),.f (.and (.q .Eq (.v 7) (.i 0)) (.q .NotEq (.v 1) (.lst .n))) #[.e (.lm .append (.v 4) #[.tup #[.s "do",.ix (.v 1) (.k 29 #[.v 0,.bf .len #[.v 1]])]])] #[.f (.and (.q .Eq (.v 7) (.i 1)) (.q .Gt (.v 2) (.i 1))) #[.a 8 (.k 29 #[.v 0,.i 5]),.a 9 (.ix (.lst #[.i 0,.i 1,.i 2,.i 3,.bin .Add (.i 4) (.k 29 #[.v 0,.i 6])]) (.v 8)),.a 10 (.k 36 #[.v 0,.v 5,.bin .Sub (.v 2) (.i 1),.i 2]),.e (.lm .append (.v 4) #[.tup #[.s "times",.bf .min #[.v 9,.bin .Sub (.i 9) (.bin .Mult (.i 8) (.bf .int #[.k 35 #[.v 10]]))],.v 10]])] #[.f (.and (.q .Lt (.v 7) (.i 4)) (.q .Gt (.v 2) (.i 1))) #[.a 11 (.k 29 #[.v 0,.i 2]),.a 12 (.bin .Mult (.i 3) (.k 29 #[.v 0,.i 2])),.a 13 (.k 36 #[.v 0,.v 5,.bin .Sub (.v 2) (.i 1),.i 3]),.e (.lm .append (.v 4) #[.tup #[.s "when",.v 11,.v 13,.k 36 #[.v 0,.v 5,.bin .Sub (.v 2) (.i 1),.v 12]]])] #[.e (.lm .append (.v 4) #[.k 30 #[.v 0,.i 12]])]]]],.r (.v 4)]⟩
abbrev dy:aE:=⟨["_law_hand_here","_law_most"],["_law_hand_here","_law_most","_law_named_here","_law_k","_law_word","_law_block_here"],[],#[.a 2 .dnew,.for (.nm 3) (.rng1 (.k 29 #[.v 0,.bin .Add (.v 1) (.i 1)])) #[.a 4 (.k 34 #[.v 0,.bf .list #[.v 2]]),.a 5 (.k 36 #[.v 0,.bf .list #[.v 2],.i 3,.i 3]),.sub (.v 2) (.v 4) (.bin .Mult (.v 5) (.bf .int #[.not (.k 35 #[.v 5])]))],.r (.v 2)]⟩
abbrev dD:aE:=⟨["_law_block_here"],["_law_block_here"],[],#[.r (.lc (.k 39 #[.v 0]) [] (.seq (.v 0)))]⟩
abbrev cJ:aE:=⟨["_law_spec_here"],["_law_spec_here"],[],#[.f (.q .Eq (.ix (.v 0) (.i 0)) (.s "do")) #[.r (.make 10 #[.ix (.v 0) (.i 1)])] .n,.f (.q .Eq (.ix (.v 0) (.i 0)) (.s "times")) #[.r (.make 11 #[.ix (.v 0) (.i 1),.k 38 #[.ix (.v 0) (.i 2)]])] .n,.f (.and (.q .Eq (.ix (.v 0) (.i 0)) (.s "when")) (.and (.q .Eq (.ix (.v 0) (.i 3)) (.lst .n)) (.q .Eq (.ix (.v 0) (.i 1)) (.i 0)))) #[.r (.make 12 #[.ix (.v 0) (.i 1),.k 38 #[.ix (.v 0) (.i 2)]])] .n,.f (.q .Eq (.ix (.v 0) (.i 0)) (.s "when")) #[.r (.make 12 #[.ix (.v 0) (.i 1),.k 38 #[.ix (.v 0) (.i 2)],.k 38 #[.ix (.v 0) (.i 3)]])] .n,.r (.k 31 #[.v 0])]⟩
abbrev eW:aE:=⟨["_law_named_here"],["_law_named_here","_law_book_here","_law_word"],[],#[.a 1 (.make 13 .n),.for (.nm 2) (.seq (.v 0)) #[.e (.m (.v 1) "name" #[.v 2,.k 38 #[.ix (.v 0) (.v 2)]])],.r (.v 1)]⟩
abbrev cW:aE:=⟨["_law_named_here"],["_law_named_here","_law_counts_here","_law_word"],[],#[.a 1 .dnew,.for (.nm 2) (.seq (.v 0)) #[.sub (.v 1) (.v 2) (.k 42 #[.v 1,.ix (.v 0) (.v 2)])],.r (.v 1)]⟩
abbrev dQ:aE:=⟨["_law_counts_here","_law_block_here"],["_law_counts_here","_law_block_here","_law_found","_law_item_here"],[],#[.a 2 (.i 0),.for (.nm 3) (.seq (.v 1)) #[.f (.q .Eq (.ix (.v 3) (.i 0)) (.s "do")) #[.aug 2 .Add (.ix (.v 0) (.ix (.v 3) (.i 1)))] #[.f (.q .Eq (.ix (.v 3) (.i 0)) (.s "times")) #[.aug 2 .Add (.bin .Mult (.ix (.v 3) (.i 1)) (.k 42 #[.v 0,.ix (.v 3) (.i 2)]))] #[.f (.q .Eq (.ix (.v 3) (.i 0)) (.s "when")) #[.aug 2 .Add (.bin .Add (.bin .Add (.bin .Add (.i 1) (.k 42 #[.v 0,.ix (.v 3) (.i 2)])) (.k 42 #[.v 0,.ix (.v 3) (.i 3)])) (.bf .int #[.q .NotEq (.ix (.v 3) (.i 3)) (.lst .n)]))] #[.aug 2 .Add (.i 1)]]]],.r (.v 2)]⟩
abbrev bT:aE:=⟨["_law_hand_here","_law_counts_here"],["_law_hand_here","_law_counts_here","_law_book_here","_law_many","_law_last","_law_k","_law_word","_law_block_here"],[],#[.a 2 (.make 13 .n),.a 3 (.i 1),.a 4 (.lst .n),.for (.nm 5) (.rng1 (.i 6)) #[.a 6 (.bin .Mult (.ix (.s "abcdefg") (.v 5)) (.bin .Add (.i 1) (.k 29 #[.v 0,.i 8]))),.a 7 (.lst #[.make 11 #[.i 9,.lst #[.make 11 #[.i 9,.lst #[.make 11 #[.i 9,.v 4]]]]],.make 4 #[.s "met",.i 1]]),.e (.m (.v 2) "name" #[.v 6,.v 7]),.a 3 (.bin .Add (.bin .Mult (.bin .Mult (.i 729) (.v 3)) (.bf .int #[.q .Gt (.v 5) (.i 0)])) (.i 1)),.a 4 (.lst #[.make 10 #[.v 6]])],.r (.q .Eq (.k 27 #[.v 2,.lst #[.make 11 #[.i 9,.lst #[.make 11 #[.i 9,.v 4]]]]]) (.bin .Mult (.i 81) (.v 3)))]⟩
abbrev dN:aE:=⟨["_law_book_here","_law_counts_here","_law_block_here"],["_law_book_here","_law_counts_here","_law_block_here","_law_handed","_law_found"],[],#[.a 3 (.k 38 #[.v 2]),.a 4 (.k 27 #[.v 0,.v 3]),.f (.or (.not (.val (.k 33 #[.v 4]))) (.q .NotEq (.v 4) (.k 42 #[.v 1,.v 2]))) #[.r (.bl false)] .n,.e (.lm .append (.v 3) #[.make 4 #[.s "met",.i 0]]),.r (.q .Eq (.k 27 #[.v 0,.v 3]) (.bin .Add (.v 4) (.i 1)))]⟩
abbrev lO:aE:=⟨["_law_script"],["_law_script","_law_hand_here","_law_named_here","_law_book_here","_law_counts_here","_law_held","_law_turn","_law_most","_law_block_here","_law_word"],[],#[.a 1 (.k 28 #[.v 0]),.a 2 (.k 37 #[.v 1,.i 5]),.a 3 (.k 40 #[.v 2]),.a 4 (.k 41 #[.v 2]),.a 5 (.lst .n),.for (.nm 6) (.rng1 (.i 6)) #[.a 7 (.ix (.lst #[.i 2,.i 5,.i 23]) (.k 29 #[.v 1,.i 3])),.a 8 (.k 36 #[.v 1,.bf .list #[.v 2],.i 4,.v 7]),.f (.not (.val (.k 44 #[.v 3,.v 4,.v 8]))) #[.r (.bl false)] .n,.e (.lm .append (.v 5) #[.v 8])],.a 9 (.k 34 #[.v 1,.bf .list #[.v 2]]),.e (.m (.v 3) "name" #[.v 9,.k 38 #[.ix (.v 5) (.i 0)]]),.sub (.v 4) (.v 9) (.k 42 #[.v 4,.ix (.v 5) (.i 0)]),.for (.nm 8) (.seq (.bin .Add (.v 5) (.lst #[.lst .n,.lst #[.tup #[.s "do",.v 9]],.lst #[.tup #[.s "times",.i 9,.lst #[.tup #[.s "do",.v 9]]]]]))) #[.f (.not (.val (.k 44 #[.v 3,.v 4,.v 8]))) #[.r (.bl false)] .n],.r (.k 43 #[.v 1,.v 4])]⟩
abbrev tab:Tab where
  fns:=(dq::dU::gf::jA::eZ::eI::cx::cK::cy::bW::b9::bJ::gL::lW::cE::cZ::bN::aZ::gI::cX::dW::dz::cY::cb::fR::eJ::bh::f7::fe::eL::eU::eX::fc::dZ::bA::cG::aC::dy::dD::cJ::eW::cW::dQ::bT::dN::lO::[])
  gfn:=(("is_whole",2)::("is_box",3)::("is_number",4)::("check_box",5)::("check_number",6)::("is_many",12)::("is_on",13)::("is_name",18)::("check_names",19)::("count_item",20)::("count_when",21)::("count_block",22)::("count_of",27)::("_law_hand",28)::("_law_draw",29)::("_law_spec",30)::("_law_deed",31)::("_law_long",32)::("_law_whole",33)::("_law_called",34)::("_law_nothing",35)::("_law_block",36)::("_law_named",37)::("_law_items",38)::("_law_item",39)::("_law_book",40)::("_law_counts",41)::("_law_count",42)::("_law_chain",43)::("_law_right",44)::("law",45)::[])
  gcl:=[("HaulError",0),("NoDeed",1),("NoName",2),("Deed",3),("Set",4),("Add",5),("Take",6),("Read",7),("Write",8),("Hop",9),("Do",10),("Times",11),("When",12),("Book",13),("Copy",14),("Fill",15),("Seek",16),("Match",17),("Shift",18),("Turn",19)]
  gbl:=["all","bool","int","isinstance","len","list","min","range","str","sum"]
  gbi:=["HaulError"]
  na:=[(1,"word"),(2,"word"),(4,"box"),(4,"number"),(5,"box"),(5,"number"),(6,"box"),(6,"other"),(7,"box"),(8,"box"),(9,"many"),(9,"on"),(10,"called"),(11,"block"),(11,"many"),(12,"block"),(12,"on"),(12,"other"),(13,"blocks"),(13,"counts")]
  me:=[((13,"count_named"),26),((13,"has"),24),((13,"name"),25)]
  ini:=[(1,0),(2,1),(4,7),(5,8),(6,9),(7,10),(8,11),(9,14),(10,15),(11,16),(12,17),(13,23)]
  ini0:=[]
  inip:=[14,15,16,17,18,19]
  oc:=[3,4,5,6,7,8,9,10,11,12,13,14,15,16,17,18,19]
  xc:=[0,1,2]
  sub:=(((3,10),false)::((3,11),false)::((3,12),false)::((4,10),false)::((4,11),false)::((4,12),false)::((5,10),false)::((5,11),false)::((5,12),false)::((6,10),false)::((6,11),false)::((6,12),false)::((7,10),false)::((7,11),false)::((7,12),false)::((8,10),false)::((8,11),false)::((8,12),false)::((9,10),false)::((9,11),false)::((9,12),false)::((10,10),true)::((10,11),false)::((10,12),false)::((11,10),false)::((11,11),true)::((11,12),false)::((12,10),false)::((12,11),false)::((12,12),true)::((13,10),false)::((13,11),false)::((13,12),false)::((14,10),false)::((14,11),false)::((14,12),false)::((15,10),false)::((15,11),false)::((15,12),false)::((16,10),false)::((16,11),false)::((16,12),false)::((17,10),false)::((17,11),false)::((17,12),false)::((18,10),false)::((18,11),false)::((18,12),false)::((19,10),false)::((19,11),false)::((19,12),false)::[])
  subT:=[]
  subB:=[(("NoneType","bool"),false),(("NoneType","int"),false),(("NoneType","str"),false),(("bool","bool"),true),(("bool","int"),true),(("bool","str"),false),(("int","bool"),false),(("int","int"),true),(("int","str"),false),(("str","bool"),false),(("str","int"),false),(("str","str"),true),(("list","bool"),false),(("list","int"),false),(("list","str"),false),(("tuple","bool"),false),(("tuple","int"),false),(("tuple","str"),false),(("dict","bool"),false),(("dict","int"),false),(("dict","str"),false)]
  subO:=[]
/-- what the proofs ask of the addresses -/
structure Ro (K:W.Frag) (R:Rt):Prop where
  hK:R.K=K
  g_BOUND:R.gl "BOUND"=some (.int 1000000000)
  g_MOST_HOPPED:R.gl "MOST_HOPPED"=some (.int 24)
  g_LONGEST_NAME:R.gl "LONGEST_NAME"=some (.int 8)
  g_LETTERS:R.gl "LETTERS"=some (.str "abcdefghijklmnopqrstuvwxyz")
  g_NAMES:∃ a,R.gl "NAMES"=some (.ref a)/\∀ H,cV K H a [.str "here",.str "there",.str "left",.str "way",.str "sign",.str "met"]
end My
set_option Elab.async false
set_option maxHeartbeats 8000000
namespace My
open PySem L2 L3
open L2.V renaming ref→sK,int→tz,str→ul,non→ut
open L2.HO renaming lst→v4,tup→v6,ins→wf
local macro_rules|`(tactic|delta $x:ident)=>`(tactic|refine wc (d:=$x) nofun rfl rfl ?_)
variable {h a d dx:Addr}{m i r:Int}{ns:List Str}{v:V}{α:Type}{G:Gx}{c:Nat}{xs vs ys:List V}{P:V->Prop}{o:Option Int}{F:List ag}{kvs:List (Key×V)}{x:Key}{D:Ends}{U rest:St}{I:Nat->Addr->List V->Hp->Prop}{H3:Hp}{te:TE}
section
variable {K:W.Frag}{R:Rt}{k:Nat}{H:Hp}{Q:VK}{E:XK}{O Γ' Δ:List ag}
local macro_rules| `(tactic|walk_at "w")=>`(tactic|conv=>whnf)
local macro_rules| `(tactic|left)=>`(tactic|walk_at "w")
local macro_rules| `(tactic|symm)=>`(tactic|((with_reducible (repeat(first|exact ax.e|apply ax.t)));done))
local macro_rules| `(tactic|ac_rfl)=>`(tactic|((with_reducible (repeat(first|exact bz.e|apply bz.t)));done))
local macro_rules| `(tactic|ac_nf)=>`(tactic|first|(with_reducible exact Sub.refl)|(refine' Sub.cons ?h ?r;(case h=>symm);(case r=>ac_nf))|(with_reducible exact Sub.nil)|(with_reducible apply Sub.drop;(ac_nf)))
local macro_rules| `(tactic|walk_at "sp")=>`(tactic|(refine Sep.sub ?_ (by with_reducible assumption);(ac_nf)))
local macro_rules| `(tactic|grind)=>`(tactic|first|exact Sep.get (by with_reducible assumption) (by symm)|exact Sep.zL (by with_reducible assumption) (by symm))
local macro_rules| `(tactic|walk_at "ar")=>`(tactic|first|lia|omega|decide|exact nl rfl|(unfold nI;omega)|(unfold uI;omega)|(unfold uI;decide)|(unfold nI;decide)|(simp only[ce,length_set,List.length_replicate];omega))
local macro_rules| `(tactic|walk_at "ls")=>`(tactic|first|(conv=>lhs;simp only[List.set_cons_succ,List.set_cons_zero,Int.reduceToNat])|rfl)
local macro_rules| `(tactic|walk_at "pf")=>`(tactic|first|(conv=>lhs;simp (decide:=true) only [bB,if_true,if_false])|rfl)
local macro_rules| `(tactic|walk_at "st")=>`(tactic|first
  |(with_reducible refine And.intro rfl ?_)
  |(with_reducible refine cg rfl ?_)
  |(with_reducible refine aq rfl ?_)
  |(with_reducible refine wA ?_)
  |((with_reducible refine' bP ?e ?v ?_);(case e=>grind);(case v=>exact rfl))
  |((with_reducible refine' av ?e ?v ?_);(case e=>grind);(case v=>exact rfl))
  |((with_reducible refine' Ac ?e ?i ?v ?_);(case e=>grind);(case i=>omega);(case v=>exact rfl))
  |(with_reducible refine qQ rfl ?_)
  |(with_reducible refine bf_max rfl ?_)
  |((with_reducible refine' my ?e ?_);(case e=>grind))
  |((with_reducible refine' bf_lenT ?e ?_);(case e=>grind))
  |((with_reducible refine' zO ?s ?r ?j ?x (λH hs=>?_));(case s=>with_reducible assumption);(case r=>ac_rfl);(case j=>exact rfl);(case x=>walk_at "ls"))
  |((with_reducible refine' il ?s ?l (λp H hs=>?_));(case s=>with_reducible assumption);(case l=>exact nl rfl))
  |((with_reducible refine' ij ?s ?l (λp H hs=>?_));(case s=>with_reducible assumption);(case l=>exact nl rfl))
  |((with_reducible refine' v9 ?s (λp H hs=>?_));(case s=>with_reducible assumption))
  |((with_reducible refine' lC ?e ?_);(case e=>grind))
  |((with_reducible refine' it_e ?e ?_);(case e=>grind))
  |((with_reducible refine' vx ?s ?e ?f ?l (λp H hs=>?_));(case s=>with_reducible assumption);(case e=>grind);(case f=>grind);(case l=>walk_at "ar"))
  |((with_reducible refine' pN ?s ?e ?f ?g ?l (λp H hs=>?_));(case s=>with_reducible assumption);(case e=>grind);(case f=>walk_at "ar");(case g=>walk_at "ar");(case l=>walk_at "ar"))
  |((with_reducible refine' A1 ?s ?r ?o ?n ?l ?x (λH hs=>?_));(case s=>with_reducible assumption);(case r=>ac_rfl);(case o=>exact rfl);(case n=>exact rfl);(case l=>walk_at "ar");(case x=>walk_at "pf"))
  |((with_reducible refine' cj ?e ?o ?n ?l ?_);(case e=>grind);(case o=>exact rfl);(case n=>exact rfl);(case l=>exact rfl))
  |((with_reducible refine' fld_x ?e ?o ?n ?l ?_);(case e=>grind);(case o=>exact rfl);(case n=>exact rfl);(case l=>exact rfl))
  |((with_reducible refine' isi_x ?e ?o ?b ?_);(case e=>grind);(case o=>exact rfl);(case b=>exact rfl))
  |((with_reducible refine' isi_xt ?e ?o ?b ?_);(case e=>grind);(case o=>exact rfl);(case b=>exact rfl))
  |((with_reducible refine' fP ?t ?b ?_);(case t=>exact rfl);(case b=>exact rfl))
  |((with_reducible refine' iW ?a ?b ?_);(case a=>exact rfl);(case b=>exact rfl))
  |((with_reducible refine' lR ?a ?b ?_);(case a=>exact rfl);(case b=>exact rfl))
  |((with_reducible refine' cT ?s ?e (λp H hs=>?_));(case s=>with_reducible assumption);(case e=>grind))
  |((with_reducible refine' sl_l ?s ?e (λp H hs=>?_));(case s=>with_reducible assumption);(case e=>grind))
  |(refine And.intro (by walk_at "ar") ?_))
local macro_rules| `(tactic|walk_at "go")=>`(tactic|(walk_at "w";repeat(walk_at "st";walk_at "w")))
local macro_rules| `(tactic|right)=>`(tactic|walk_at "go")
abbrev hand (h:Addr)(m:Int):ag:=ex λx:Addr×List Int×Int×Int×Int×Int=>lQ (pt h (v4 [sK x.1,tz x.2.2.1,tz x.2.2.2.1,tz x.2.2.2.2.1,tz x.2.2.2.2.2])) (lQ (pt x.1 (v4 (x.2.1.map tz)))
 (pu (x.2.1.length<=63/\0<=x.2.2.1/\x.2.2.1<2147483629/\0<=x.2.2.2.1/\0<=x.2.2.2.2.1/\0<=x.2.2.2.2.2/\x.2.2.2.2.2<=m)))
def rz (s:Sep (hand h m::O) H):∃ (c:Addr) (ns:List Int) (fo i r n:Int),Sep (pt h (v4 [sK c,tz fo,tz i,tz r,tz n])::pt c (v4 (ns.map tz))::O) H/\ns.length<=63/\0<=fo/\fo<2147483629/\0<=i/\0<=r/\0<=n/\n<=m:=by
 obtain⟨⟨c,ns,fo,i,r,n⟩,s⟩:=Sep.BV.mp s;have s2:=Sep.star.mp ((Sep.star.mp s).pull .k1);have p:=(s2.pull .k1).pure;exact⟨c,ns,fo,i,r,n,((s2.pull .k1).drop).pull .k1,p⟩
def et {c:Addr}{ns:List Int}{fo n:Int}(s:Sep (pt h (v4 [sK c,tz fo,tz i,tz r,tz n])::pt c (v4 (ns.map tz))::O) H)(p:ns.length<=63/\0<=fo/\fo<2147483629/\0<=i/\0<=r/\0<=n/\n<=m):Sep (hand h m::O) H:=by
 refine Sep.BV.mpr ⟨⟨c,ns,fo,i,r,n⟩,Sep.star.mpr ?_⟩;exact(Sep.star.mpr (((s.pull .k1).pull .e |> λs=>(Sep.Bo p s).pull .k1))).pull .k1
def yI:(10:Int) ^ Int.toNat 18=1000000000000000000:=by decide
def wg {n:Int}(hk:1<=k)(s:Sep (hand h m::O) H)(hm:m<=1099511627776)(hn0:0<n)(hn1:n<1073741824)
  (q:∀ (r:Int) (H':Hp),0<=r->r<n->Sep (hand h (m+1)::O) H'->Q (tz r) H'):ae tab R k 29 [sK h,tz n] H Q E:=by
 obtain⟨c,ns,fo,i,r,j,hs,h63,f0,f1,i0,r0,k0,k1⟩:=rz s;clear s;have nn:n≠0:=by omega
 delta eL;right;refine b6 (λhr=>?_) (λhr=>?_)
 .right;rename_i H1 hs1 H2 hs2;exact q _ _ (Int.emod_nonneg _ nn) (Int.emod_lt_of_pos _ hn0) (et hs2 ⟨h63,f0,f1,i0,Int.ediv_nonneg r0 nofun,by omega,by omega⟩)
 right;refine b6 (λhc=>?_) (λhc=>?_)
 .right;obtain⟨z,hz⟩:∃ z,eP (ns.map tz) i=some (tz z):=qi i0 (by rw[ce]at hc;exact hc);refine bP (by grind) hz ?_;right;refine b6 (λhz18=>?_) (λhz18=>?_)
  .rw[yI]at hz18;right;rename_i H1 hs1 H2 hs2 H3 hs3;exact q _ _ (Int.emod_nonneg _ nn) (Int.emod_lt_of_pos _ hn0) (et hs3 ⟨h63,f0,f1,by omega,Int.ediv_nonneg nofun nofun,by omega,by omega⟩)
  .right;rename_i H1 hs1 H2 hs2;exact q _ _ (Int.emod_nonneg _ nn) (Int.emod_lt_of_pos _ hn0) (et hs2 ⟨h63,f0,f1,by omega,r0,by omega,by omega⟩)
 .right;rename_i H1 hs1;exact q _ _ (Int.emod_nonneg _ nn) (Int.emod_lt_of_pos _ hn0) (et hs1 ⟨h63,f0,f1,by omega,r0,by omega,by omega⟩)
def wJ {ns:List Int}(hk:1<=k)(s:Sep O H)(hS:aA R.K H a (ns.map tz))(h63:ns.length<=63)(q:∀ h H',Sep (hand h 0::O) H'->Q (sK h) H'):ae tab R k 28 [sK a] H Q E:=by
 delta fe;right;refine Bp s hS (λp H1 hs1=>?_);rw[Aj ns h63]at hs1;right;rename_i c H2 hs2;refine ft (xs:=ns.map tz) (λj U H=>∃ (fo:Int) (v:Option V),U=[some (sK a),some (sK c),some (tz fo),v]/\0<=fo/\fo<2147483629/\Sep (pt c (v4 (ns.map tz))::pt p (v4 (ns.map tz))::O) H) ?_ ?_ ?_ ?_
 .exact⟨_,none,rfl,by rw[ce];omega,by rw[ce];omega,hs2⟩
 .rintro j U H ⟨fo,v,rfl,h0,h2,hs⟩;exact aA.of hs.at
 .rintro j x U H hx ⟨fo,v,rfl,h0,h2,hs⟩;obtain⟨z,rfl⟩:=lH hx;right;exact⟨_,_,rfl,by omega,by omega,hs⟩
 .rintro U H ⟨fo,v,rfl,h0,h2,hs⟩;right;rename_i l H3 hs3;exact q l _ (et ((hs3.pull .k2).drop) ⟨h63,h0,h2,by omega,by omega,by omega,by omega⟩)
def aB {n:Int}(s:Sep (hand h m::O) H)(e:m<=n):Sep (hand h n::O) H:=by
 obtain⟨c,ns,fo,i,r,j,hs,h63,f0,f1,i0,r0,k0,k1⟩:=rz s;exact et hs ⟨h63,f0,f1,i0,r0,k0,by omega⟩
inductive Kd (H:Hp):V->String->Prop where
 |non:Kd H ut "NoneType"
 |bl (b:Bool):Kd H (.bl b) "bool"
 |int (i:Int):Kd H (tz i) "int"
 |str (x:Str):Kd H (ul x) "str"
 |lst {a:Addr}{xs:List V}(e:H a=some (v4 xs)):Kd H (sK a) "list"
 |tup {a:Addr}{xs:List V}(e:H a=some (v6 xs)):Kd H (sK a) "tuple"
 |dct {a:Addr}{kvs:List (Key×V)}(e:Rd H a (.dK kvs)):Kd H (sK a) "dict"
def gN {t:String}(h:tyName v H=some t):Kd H v t:=by
 unfold tyName at h
 split at h
 .cases h;exact .non
 .cases h;exact .bl _
 .cases h;exact .int _
 .cases h;exact .str _
 .split at h
  .rename_i e;cases h;exact .lst e
  .rename_i e;cases h;exact .tup e
  .rename_i e;cases h;exact .dct (.inl e)
  .rename_i e;cases h;exact .dct (.inr ⟨_,e⟩)
  .cases h
 .cases h
abbrev ph:V->Bool
 | tz _=>true
 |_=>false
def bU {t:String}(hk:1<=k)(ht:tyName v H=some t)(q:Q (.bl (ph v)) H):ae tab R k 2 [v] H Q E:=by
 delta gf;right;cases gN ht
 all_goals
  refine fP ht rfl ?_;right
  first
   |exact q
   |(refine fP ht rfl ?_;right;exact q)
def dS {xs:List α}{x:α}(h0:0<=i)(hx:xs[i.toNat]? =some x):eP xs i=some x:=by
 have h:=L2.dw hx
 rwa [Int.toNat_of_nonneg h0]at h
def sC:(10:Int) ^ Int.toNat 9=1000000000:=by decide
local macro_rules| `(tactic|walk_at "dr")=>`(tactic|(refine' wg ?k ?s ?m ?a ?b (λr H hr0 hr1 hs=>?_);(case s=>walk_at "sp");(case k=>exact nofun);(case m=>omega);(case a=>walk_at "ar");(case b=>walk_at "ar")))
local macro_rules| `(tactic|walk_at "gd")=>`(tactic|(walk_at "w";repeat(first|(walk_at "st";walk_at "w")|(walk_at "dr";walk_at "w"))))
abbrev bx (f:α->List ag):ag:=⟨λH D=>∃ x,aF (f x) H D,λH H' D ⟨x,h⟩ k t=>⟨x,aF.st h k t⟩,λH D D' ⟨x,h⟩ k=>⟨x,aF.up h k⟩⟩
def gg:∀ {O Δ:List ag}{D:Addr->Prop},aF (O++Δ) H D ↔ ∃ D1 D2:Addr->Prop,(∀ a,D1 a->D a)/\(∀ a,D2 a->D a)/\(∀ a,D1 a->D2 a->False)/\aF O H D1/\aF Δ H D2
 | [],Δ,D=>⟨λh=>⟨λ_=>False,D,λ_ z=>z.elim,λ_ z=>z,λ_ z _=>z,True.intro,h⟩,λ⟨_,_,_,s2,_,_,h⟩=>aF.up h s2⟩
 |A::O,Δ,D=>by
  constructor
  .rintro⟨E1,E2,s1,s2,dj,hA,h⟩;obtain⟨F1,F2,t1,t2,dk,h1,h2⟩:=gg.mp h;refine⟨λa=>E1 a\/F1 a,F2,λa z=>z.elim (s1 a) λz=>s2 a (t1 a z),λa z=>s2 a (t2 a z),λa z w=>z.elim (λz=>dj a z (t2 a w)) λz=>dk a z w,?_,h2⟩;exact⟨E1,F1,λa z=>.inl z,λa z=>.inr z,λa z w=>dj a z (t1 a w),hA,h1⟩
  .rintro⟨D1,D2,s1,s2,dj,⟨E1,E2,t1,t2,dk,hA,h1⟩,h2⟩;refine⟨E1,λa=>E2 a\/D2 a,λa z=>s1 a (t1 a z),λa z=>z.elim (λz=>s1 a (t2 a z)) (s2 a),λa z w=>w.elim (dk a z) λw=>dj a (t1 a z) w,hA,?_⟩;exact gg.mpr ⟨E2,D2,λa z=>.inl z,λa z=>.inr z,λa z w=>dj a (t2 a z) w,h1,h2⟩
def xO {f:α->List ag}(x:α)(s:Sep (f x++O) H):Sep (bx f::O) H:=by
 obtain⟨D,k,h⟩:=s;obtain⟨D1,D2,s1,s2,dj,h1,h2⟩:=gg.mp h;exact⟨D,k,D1,D2,s1,s2,dj,⟨x,h1⟩,h2⟩
abbrev y9:List Str:=["here","there","left","way","sign","met"]
abbrev kE:V->Bool
 | tz i=>decide (-1000000000<=i)&&decide (i<=1000000000)
 |_=>false
def jD {t:String}(ro:Ro K R)(hk:2<=k)(ht:tyName v H=some t)(q:Q (.bl (kE v)) H):ae tab R k 4 [v] H Q E:=by
 delta eZ;right;refine bU nofun ht ?_;cases gN ht
 case int i=>
  left;refine cg rfl ?_;left;simp only[ro.g_BOUND];right;refine b6 (λh0=>?_) (λh0=>?_)
  .left;simp only[ro.g_BOUND];right;have e:kE (tz i)=decide (i<=1000000000):=by simp[kE,h0]
   rw[e]at q;exact q
  .right;have e:kE (tz i)=false:=by simp[kE,h0]
   rw[e]at q;exact q
 all_goals
  right;exact q
def wL {j:Nat}{x:Str}(h:y9[j]? =some x):(j=0/\x="here")\/(j=1/\x="there")\/(j=2/\x="left")\/(j=3/\x="way")\/(j=4/\x="sign")\/(j=5/\x="met"):=by
 rcases j with _|_|_|_|_|_|j
 .cases h;exact .inl ⟨rfl,rfl⟩
 .cases h;exact .inr (.inl ⟨rfl,rfl⟩)
 .cases h;exact .inr (.inr (.inl ⟨rfl,rfl⟩))
 .cases h;exact .inr (.inr (.inr (.inl ⟨rfl,rfl⟩)))
 .cases h;exact .inr (.inr (.inr (.inr (.inl ⟨rfl,rfl⟩))))
 .cases h;exact .inr (.inr (.inr (.inr (.inr ⟨rfl,rfl⟩))))
 .exact absurd h (by simp[y9])
local macro_rules| `(tactic|walk_at "sc")=>`(tactic|first|(refine cg (by decide+kernel) ?_;walk_at "go")|(refine aq (by decide+kernel) ?_;walk_at "go"))
def o8 {t:String}(hk:1<=k)(ht:tyName v H=some t)(q:Q (.bl (ph v)) H):ae tab R k 33 [v] H Q E:=by
 delta dZ;right;cases gN ht
 all_goals
  refine fP ht rfl ?_;right
  first
   |exact q
   |(refine fP ht rfl ?_;right;exact q)
abbrev Ad:V->Bool
 | ul x=>rC (ul x) (y9.map ul)
 |_=>false
def sU {t:String}(ro:Ro K R)(hk:1<=k)(ht:tyName v H=some t)(q:Q (.bl (Ad v)) H):ae tab R k 3 [v] H Q E:=by
 delta jA;right;obtain⟨a,hg,hs⟩:=ro.g_NAMES;have hs':=hs H;rw[<-ro.hK]at hs';cases gN ht
 case str x=>
  refine fP ht rfl ?_;left;refine cg rfl ?_;left;simp only[hg];right;exact Bt hs' rfl rfl q
 all_goals
  refine fP ht rfl ?_;right;exact q
def xm {j:Nat}{x:Str}(hj:y9[j]? =some x):Ad (ul x)=true:=by
 rcases wL hj with⟨rfl,rfl⟩|⟨rfl,rfl⟩|⟨rfl,rfl⟩|⟨rfl,rfl⟩|⟨rfl,rfl⟩|⟨rfl,rfl⟩<;>rfl
abbrev Ob (R:Rt)(A:ag)(b:Addr)(i:Nat)(fl:List Str):Prop:=∀ H D,A.p H D->∃ dx fs,H b=some (wf (R.cad i) dx fs)/\fs.map (·.1)=fl
structure Bx where
 h:Int
 t:Int
 l:Int
 w:Int
 s:Int
 m:Int
abbrev Bx.ok (x:Bx):Prop:=(-1000000000<=x.h/\x.h<=1000000000)/\(-1000000000<=x.t/\x.t<=1000000000)/\(0<=x.l/\x.l<=1000000000)/\(x.w=1\/x.w= -1)/\(0<=x.s/\x.s<=1000000000)/\(x.m=0\/x.m=1)
section
variable {b:Addr}{h t l w s m i:Int}
end
abbrev gt (cs:List Int)(i:Int):Int:=(cs[i.toNat]?).getD 0
section
variable {a:Addr}{cs:List Int}{ws:List Str}{i v:Int}
end
local macro_rules| `(tactic|walk_at "ag")=>`(tactic|first|refine wargs2 (vs':=[_,_]) rfl ?_|refine wargs2 (vs':=[_,_,_]) rfl ?_|refine wargs2 (vs':=[_]) rfl ?_|refine wargs2 (vs':=[_,_,_,_]) rfl ?_)
local macro_rules| `(tactic|walk_at "ws")=>`(tactic|(walk_at "w";repeat(first|(walk_at "st";walk_at "w")|(walk_at "mt";walk_at "w")|(walk_at "ag";(walk_at "hq");walk_at "w")|(walk_at "ag";(walk_at "gq");walk_at "w"))))
local macro_rules| `(tactic|walk_at "sc")=>`(tactic|first|(refine cg (by decide+kernel) ?_;walk_at "go")|(refine aq (by decide+kernel) ?_;walk_at "go"))
section
variable {b a:Addr}{h t l w s m i j by':Int}{cs:List Int}{ws:List Str}
end
section
variable {b a:Addr}{h t l w s m i j:Int}{cs:List Int}{ws:List Str}
end
abbrev b2i (c:Bool):Int:=match c with
 |true=>1
 |false=>0
def bQ {c:Bool}(q:Q (tz (b2i c)) H):ja G .int [.bl c] H Q:=by
 unfold ja;refine .inr ⟨c,rfl,?_⟩;cases c<;>exact q
section
variable {cs:List Int}{f g:Nat->Int}{i v:Int}
end
abbrev dd (R:Rt)(d:Addr)(c:Nat):ag:=bx λdx:Addr=>[pt d (wf (R.cad c) dx []),pt dx (.own d)]
def AO (s:Sep (pt d (wf (R.cad c) dx [])::pt dx (.own d)::O) H):Sep (dd R d c::O) H:=xO dx s
def zJ:Ob R (dd R d c) d c []:=by
 rintro H D ⟨dx,D1,D2,_,_,_,⟨_,h⟩,_⟩;exact⟨dx,_,h,rfl⟩
section
variable {d:Addr}{h t l w s m i:Int}{P:Hp->Prop}
end
local macro_rules| `(tactic|walk_at "sx")=>`(tactic|((with_reducible (first|refine' dx_h ?s ?p ?_|refine' dx_t ?s ?p ?_|refine' dx_l ?s ?p ?_|refine' dx_w ?s ?p ?_|refine' dx_s ?s ?p ?_|refine' dx_m ?s ?p ?_));(case s=>with_reducible assumption);(case p=>symm)))
local macro_rules| `(tactic|walk_at "sy")=>`(tactic|((with_reducible (first|refine' ds_h ?s ?p (λH hs=>?_)|refine' ds_t ?s ?p (λH hs=>?_)|refine' ds_l ?s ?p (λH hs=>?_)|refine' ds_w ?s ?p (λH hs=>?_)|refine' ds_s ?s ?p (λH hs=>?_)|refine' ds_m ?s ?p (λH hs=>?_)));(case s=>with_reducible assumption);(case p=>ac_rfl)))
local macro_rules| `(tactic|walk_at "wd")=>`(tactic|(walk_at "w";repeat(first|(walk_at "sx";walk_at "w")|(walk_at "sy";walk_at "w")|(walk_at "st";walk_at "w")|(refine bQ ?_;walk_at "w"))))
inductive Wd where
 |copy|fill|seek|mtch|shift|turn
abbrev Wd.s:Wd->Str
 | .copy=>"copy"
 | .fill=>"fill"
 | .seek=>"seek"
 | .mtch=>"match"
 | .shift=>"shift"
 | .turn=>"turn"
section
variable {d p:Addr}{h t l w s m:Int}{cs:List Int}{ws:List Str}
end
def cC {xs:List α}(h0:0<=i)(h1:i<xs.length):∃ v,eP xs i=some v/\v ∈ xs:=by
 have hl:i.toNat<xs.length:=by omega
 refine⟨xs[i.toNat],?_,List.getElem_mem hl⟩;have:=L2.dw (lf hl)
 rwa [Int.toNat_of_nonneg h0]at this
def jL (h0:0<=r)(h1:r<xs.length)(h:∀ v ∈ xs,P v):∃ v,eP xs r=some v/\P v:=by
 obtain⟨v,hv,hm⟩:=cC h0 h1;exact⟨v,hv,h v hm⟩
abbrev inR (lo hi:Int)(v:V):Prop:=∃ i,v=tz i/\lo<=i/\i<=hi
def inR.mk {lo hi:Int}(h0:lo<=i)(h1:i<=hi):inR lo hi (tz i):=⟨i,rfl,h0,h1⟩
def Bb {a b c:V}(ha:P a)(hb:P b)(hc:P c):∀ v ∈ [a,b,c],P v:=λv hv=>by
 simp only[lv,not_mem_nil,or_false]at hv;rcases hv with rfl|rfl|rfl<;>assumption
def Cg {a b c d:V}(ha:P a)(hb:P b)(hc:P c)(hd:P d):∀ v ∈ [a,b,c,d],P v:=λv hv=>by
 simp only[lv,not_mem_nil,or_false]at hv;rcases hv with rfl|rfl|rfl|rfl<;>assumption
abbrev bY:Nat->fV->fV
 |0,b=>b
 |n+1,.cons _ r=>bY n r
 |_+1,.nil=>.nil
abbrev Wd.cl:Wd->Nat
 | .copy=>14
 | .fill=>15
 | .seek=>16
 | .mtch=>17
 | .shift=>18
 | .turn=>19
def wm (wd:Wd)(hk:1<=k)(z:Sep O H)(q:∀ d H',Sep (dd R d wd.cl::O) H'->Q (sK d) H'):ae tab R k 32 [ul wd.s] H Q E:=by
 delta fc;right;refine nJ z (λa1 d1 H1 z1=>?_);right;refine nJ z1 (λa2 d2 H2 z2=>?_);right;refine nJ z2 (λa3 d3 H3 z3=>?_);right;refine nJ z3 (λa4 d4 H4 z4=>?_);right;refine nJ z4 (λa5 d5 H5 z5=>?_);right;refine nJ z5 (λa6 d6 H6 z6=>?_);clear z z1 z2 z3 z4 z5;right;rename_i l1 H7 z7 l2 H8 z8;refine⟨l2,_,rfl,z8.at,?_⟩;left;have ex:∃ j:Nat,j<6/\([ul "copy",ul "fill",ul "seek",ul "match",ul "shift",ul "turn"]:List V)[j]? =some (ul wd.s)/\(∀ m,m<j->fm (([ul "copy",ul "fill",ul "seek",ul "match",ul "shift",ul "turn"]:List V).getD m ut) (ul wd.s)=false)/\∃ a d,([sK a1,sK a2,sK a3,sK a4,sK a5,sK a6]:List V)[j]? =some (sK a)/\Sep (pt a (wf (R.cad wd.cl) d [])::pt d (.own a)::O) H8:=by
  cases wd
  .exact⟨0,by decide,rfl,by decide+kernel,a1,d1,rfl,z8.sub (Γ':=pt a1 (wf (R.cad 14) d1 [])::pt d1 (.own a1)::O) (by ac_nf)⟩
  .exact⟨1,by decide,rfl,by decide+kernel,a2,d2,rfl,z8.sub (Γ':=pt a2 (wf (R.cad 15) d2 [])::pt d2 (.own a2)::O) (by ac_nf)⟩
  .exact⟨2,by decide,rfl,by decide+kernel,a3,d3,rfl,z8.sub (Γ':=pt a3 (wf (R.cad 16) d3 [])::pt d3 (.own a3)::O) (by ac_nf)⟩
  .exact⟨3,by decide,rfl,by decide+kernel,a4,d4,rfl,z8.sub (Γ':=pt a4 (wf (R.cad 17) d4 [])::pt d4 (.own a4)::O) (by ac_nf)⟩
  .exact⟨4,by decide,rfl,by decide+kernel,a5,d5,rfl,z8.sub (Γ':=pt a5 (wf (R.cad 18) d5 [])::pt d5 (.own a5)::O) (by ac_nf)⟩
  .exact⟨5,by decide,rfl,by decide+kernel,a6,d6,rfl,z8.sub (Γ':=pt a6 (wf (R.cad 19) d6 [])::pt d6 (.own a6)::O) (by ac_nf)⟩
 obtain⟨j,j6,hj,hm,a,d,ha,zd⟩:=ex;refine Bq (j:=j) (λx=>fm x (ul wd.s)) z8.at (by decide) (λx hx=>⟨0,by decide,.flat ?_ rfl⟩) hj (dC rfl) (λm x h1 h2=>?_) ?_
 .simp only[lv,not_mem_nil,or_false]at hx;rcases hx with rfl|rfl|rfl|rfl|rfl|rfl<;>rfl
 .have:=hm m h1
  rwa [List.getD_eq_getElem?_getD,h2]at this
 .left;refine bP (z8.get .k1) (dS (i:=(j:Int)) nofun (by rw[pc];exact ha)) ?_;left;exact q a H8 (AO zd)
inductive Bn where
 |h
 |t
 |l
 |w
 |s
 |m
abbrev Bn.j:Bn->Nat
 | .h=>0
 | .t=>1
 | .l=>2
 | .w=>3
 | .s=>4
 | .m=>5
abbrev Bn.nm:Bn->Str
 | .h=>"here"
 | .t=>"there"
 | .l=>"left"
 | .w=>"way"
 | .s=>"sign"
 | .m=>"met"
def Bn.at (b:Bn):y9[b.j]? =some b.nm:=by cases b<;>rfl
abbrev Bx.p (x:Bx)(i:Int):Bn->Bx
 | .h=>⟨i,x.t,x.l,x.w,x.s,x.m⟩
 | .t=>⟨x.h,i,x.l,x.w,x.s,x.m⟩
 | .l=>⟨x.h,x.t,i,x.w,x.s,x.m⟩
 | .w=>⟨x.h,x.t,x.l,i,x.s,x.m⟩
 | .s=>⟨x.h,x.t,x.l,x.w,i,x.m⟩
 | .m=>⟨x.h,x.t,x.l,x.w,x.s,i⟩
def vq (h0:0<=r)(h1:r<6):∃ b:Bn,eP [ul "here",ul "there",ul "left",ul "way",ul "sign",ul "met"] r=some (ul b.nm):=by
 have:r=0\/r=1\/r=2\/r=3\/r=4\/r=5:=by omega
 rcases this with rfl|rfl|rfl|rfl|rfl|rfl
 .exact⟨.h,rfl⟩
 .exact⟨.t,rfl⟩
 .exact⟨.l,rfl⟩
 .exact⟨.w,rfl⟩
 .exact⟨.s,rfl⟩
 .exact⟨.m,rfl⟩
inductive Sp where
 |set (b:Bn) (i:Int)
 |add (b:Bn) (i:Int)
 |take (b c:Bn)
 |read (b:Bn)
 |write (b:Bn)
abbrev Sp.w:Sp->Str
 | .set _ _=>"set"
 | .add _ _=>"add"
 | .take _ _=>"take"
 | .read _=>"read"
 | .write _=>"write"
abbrev Sp.b:Sp->Bn
 | .set b _=>b
 | .add b _=>b
 | .take b _=>b
 | .read b=>b
 | .write b=>b
abbrev Sp.tl:Sp->List V
 | .set b i=>[ul "set",ul b.nm,tz i]
 | .add b i=>[ul "add",ul b.nm,tz i]
 | .take b c=>[ul "take",ul b.nm,ul c.nm]
 | .read b=>[ul "read",ul b.nm]
 | .write b=>[ul "write",ul b.nm]
abbrev Sp.cl:Sp->Nat
 | .set _ _=>4
 | .add _ _=>5
 | .take _ _=>6
 | .read _=>7
 | .write _=>8
abbrev Sp.fs:Sp->List (Str×V)
 | .set b i=>[("box",ul b.nm),("number",tz i)]
 | .add b i=>[("box",ul b.nm),("number",tz i)]
 | .take b c=>[("box",ul b.nm),("other",ul c.nm)]
 | .read b=>[("box",ul b.nm)]
 | .write b=>[("box",ul b.nm)]
abbrev Sp.ok:Sp->Prop
 | .set _ i=>-1000000000<=i/\i<=1000000000
 | .add _ i=>-1000000000<=i/\i<=1000000000
 |_=>True
abbrev sd (R:Rt)(d:Addr)(sp:Sp):ag:=bx λdx:Addr=>[pt d (wf (R.cad sp.cl) dx sp.fs),pt dx (.own d)]
def pw {sp:Sp}(s:Sep (pt d (wf (R.cad sp.cl) dx sp.fs)::pt dx (.own d)::O) H):Sep (sd R d sp::O) H:=xO dx s
def zf {sp:Sp}:Ob R (sd R d sp) d sp.cl (sp.fs.map (·.1)):=by
 rintro H D ⟨dx,D1,D2,_,_,_,⟨_,h⟩,_⟩;exact⟨dx,_,h,rfl⟩
variable {n:Bn}{w:Str}
def aH (ro:Ro K R)(hk:2<=k)(q:Q ut H):ae tab R k 5 [ul w,ul n.nm] H Q E:=by
 delta eI;right;refine sU (t:="str") ro nofun rfl ?_;rw[xm n.at];right;exact q
def cD (ro:Ro K R)(hk:3<=k)(h0: -1000000000<=i)(h1:i<=1000000000)(q:Q ut H):ae tab R k 6 [ul w,tz i] H Q E:=by
 delta cx;right;refine jD (t:="int") ro nofun rfl ?_;rw[show kE (tz i)=true by simp[kE,h0,h1]];right;exact q
def rB {x:Addr}(ro:Ro K R)(hk:4<=k)(h0: -1000000000<=i)(h1:i<=1000000000)(z:Sep (pt x (wf (R.cad 4) dx [])::pt dx (.own x)::O) H)(q:∀ H',Sep (sd R x (.set n i)::O) H'->Q ut H'):ae tab R k 7 [sK x,ul n.nm,tz i] H Q E:=by
 delta cK;right;refine aH ro nofun ?_;right;refine cD ro nofun h0 h1 ?_;right;exact q _ (pw (by assumption))
def zi {x:Addr}(ro:Ro K R)(hk:4<=k)(h0: -1000000000<=i)(h1:i<=1000000000)(z:Sep (pt x (wf (R.cad 5) dx [])::pt dx (.own x)::O) H)(q:∀ H',Sep (sd R x (.add n i)::O) H'->Q ut H'):ae tab R k 8 [sK x,ul n.nm,tz i] H Q E:=by
 delta cy;right;refine aH ro nofun ?_;right;refine cD ro nofun h0 h1 ?_;right;exact q _ (pw (by assumption))
def y8 {x:Addr}{m:Bn}(ro:Ro K R)(hk:4<=k)(z:Sep (pt x (wf (R.cad 6) dx [])::pt dx (.own x)::O) H)(q:∀ H',Sep (sd R x (.take n m)::O) H'->Q ut H'):ae tab R k 9 [sK x,ul n.nm,ul m.nm] H Q E:=by
 delta bW;right;refine aH ro nofun ?_;right;refine aH ro nofun ?_;right;exact q _ (pw (by assumption))
def Aa {x:Addr}(ro:Ro K R)(hk:4<=k)(z:Sep (pt x (wf (R.cad 7) dx [])::pt dx (.own x)::O) H)(q:∀ H',Sep (sd R x (.read n)::O) H'->Q ut H'):ae tab R k 10 [sK x,ul n.nm] H Q E:=by
 delta b9;right;refine aH ro nofun ?_;right;exact q _ (pw (by assumption))
def yW {x:Addr}(ro:Ro K R)(hk:4<=k)(z:Sep (pt x (wf (R.cad 8) dx [])::pt dx (.own x)::O) H)(q:∀ H',Sep (sd R x (.write n)::O) H'->Q ut H'):ae tab R k 11 [sK x,ul n.nm] H Q E:=by
 delta bJ;right;refine aH ro nofun ?_;right;exact q _ (pw (by assumption))
abbrev f9:V->Bool
 | tz i=>decide (0<=i)&&decide (i<=24)
 |_=>false
abbrev yt:V->Bool
 | ut=>true
 | tz i=>i ==0||i ==1
 |_=>false
def mZ {t:String}(ro:Ro K R)(hk:2<=k)(ht:tyName v H=some t)(q:Q (.bl (f9 v)) H):ae tab R k 12 [v] H Q E:=by
 delta gL;right;refine bU nofun ht ?_;cases gN ht
 case int i=>
  right;refine b6 (λh0=>?_) (λh0=>?_)
  .left;simp only[ro.g_MOST_HOPPED];right;rw[show f9 (tz i)=decide (i<=24) by simp[f9,h0]]at q;exact q
  .right;rw[show f9 (tz i)=false by simp[f9,h0]]at q;exact q
 all_goals
  right;exact q
def sA {t:String}(hk:2<=k)(ht:tyName v H=some t)(q:Q (.bl (yt v)) H):ae tab R k 13 [v] H Q E:=by
 delta lW;right;refine kB ?_;cases gN ht
 case int i=>
  left;refine aq rfl ?_;right;refine bU (t:="int") nofun rfl ?_;right;refine dv (λh0=>?_) (λh0=>?_)
  .right;rw[show yt (tz i)=true by simp[yt,h0]]at q;exact q
  .right;rw[show yt (tz i)=(i ==1) by simp[yt,h0]]at q;exact q
 case non=>
  left;refine cg rfl ?_;exact q
 all_goals
  left;refine aq rfl ?_;right;refine bU nofun ht ?_;right;exact q
abbrev oV:Option Int->V
 |none=>ut
 |some i=>tz i
abbrev AK:Option Int->Prop
 |none=>True
 |some i=>i=0\/i=1
abbrev Az (R:Rt)(d:Addr)(n:Int)(o:Option Int):ag:=bx λdx:Addr=>[pt d (wf (R.cad 9) dx [("many",tz n),("on",oV o)]),pt dx (.own d)]
def Be {n:Int}(s:Sep (pt d (wf (R.cad 9) dx [("many",tz n),("on",oV o)])::pt dx (.own d)::O) H):Sep (Az R d n o::O) H:=xO dx s
def zQ {n:Int}:Ob R (Az R d n o) d 9 ["many","on"]:=by
 rintro H D ⟨dx,D1,D2,_,_,_,⟨_,h⟩,_⟩;exact⟨dx,_,h,rfl⟩
def Ab {x:Addr}{n:Int}(ro:Ro K R)(hk:4<=k)(h0:0<=n)(h1:n<=24)(ho:AK o)(z:Sep (pt x (wf (R.cad 9) dx [])::pt dx (.own x)::O) H)(q:∀ H',Sep (Az R x n o::O) H'->Q ut H'):ae tab R k 14 [sK x,tz n,oV o] H Q E:=by
 delta cE;right;refine mZ (t:="int") ro nofun rfl ?_;rw[show f9 (tz n)=true by simp[f9,h0,h1]];right;obtain⟨t,ht⟩:∃ t,tyName (oV o) H=some t:=by cases o<;>exact⟨_,rfl⟩
 refine sA nofun ht ?_;rw[show yt (oV o)=true by cases o with|none=>rfl|some i=>rcases ho with rfl|rfl<;>rfl];right;exact q _ (Be (by assumption))
inductive Rw where
 |lg (w:Wd)
 |sp (s:Sp)
 |hop (n:Int) (o:Option Int)
abbrev Rw.tl:Rw->List V
 | .lg w=>[ul w.s]
 | .sp s=>s.tl
 | .hop n o=>[ul "hop",tz n,oV o]
abbrev Rw.ok:Rw->Prop
 | .lg _=>True
 | .sp s=>s.ok
 | .hop n o=>(0<=n/\n<=24)/\AK o
abbrev Rw.cl:Rw->Nat
 | .lg w=>w.cl
 | .sp s=>s.cl
 | .hop _ _=>9
abbrev fD (R:Rt)(d:Addr):Rw->ag
 | .lg w=>dd R d w.cl
 | .sp s=>sd R d s
 | .hop n o=>Az R d n o
abbrev Rw.fs:Rw->List Str
 | .lg _=>[]
 | .sp s=>s.fs.map (·.1)
 | .hop _ _=>["many","on"]
def ze (r:Rw):Ob R (fD R d r) d r.cl r.fs:=by
 cases r with
 |lg w=>exact zJ
 |sp s=>exact zf
 |hop n o=>exact zQ
def yy {r:Rw}(z:Sep O H)(p:ax (fD R d r) O Δ):∃ dx fs,H d=some (wf (R.cad r.cl) dx fs):=by
 obtain⟨D,k,D1,D2,s1,s2,dj,h1,h2⟩:=z.pull p;obtain⟨dx,fs,e,_⟩:=ze r H D1 h1;exact⟨dx,fs,e⟩
def yZ (h0:0<=r)(h1:r<6):∃ wd:Wd,eP [ul "copy",ul "fill",ul "seek",ul "match",ul "shift",ul "turn"] r=some (ul wd.s):=by
 have:r=0\/r=1\/r=2\/r=3\/r=4\/r=5:=by omega
 rcases this with rfl|rfl|rfl|rfl|rfl|rfl
 .exact⟨.copy,rfl⟩
 .exact⟨.fill,rfl⟩
 .exact⟨.seek,rfl⟩
 .exact⟨.mtch,rfl⟩
 .exact⟨.shift,rfl⟩
 .exact⟨.turn,rfl⟩
def xp (h0:0<=r)(h1:r<3):∃ o:Option Int,eP [ut,tz 0,tz 1] r=some (oV o)/\AK o:=by
 rcases(by omega:r=0\/r=1\/r=2) with rfl|rfl|rfl
 .exact⟨none,rfl,True.intro⟩
 .exact⟨some 0,rfl,.inl rfl⟩
 .exact⟨some 1,rfl,.inr rfl⟩
abbrev mL (v:V):Prop:=∃ b:Bn,v=ul b.nm
def tO {sz:Int}(hk:2<=k)(s:Sep (hand h m::O) H)(hm:m<=1099510000000)(h0:0<=sz)(h1:sz<=60)(q:∀ t r H',Rw.ok r->Sep (tu t r.tl::hand h (m+10)::O) H'->Q (sK t) H'):ae tab R k 30 [sK h,tz sz] H Q E:=by
 delta eU;walk_at "gd";rename_i wy H1 wy0 wy1 hs1 p1 H2 hs2 r2 H3 r20 r21 hs3;obtain⟨b,e2⟩:=vq r20 r21;refine bP (by grind) e2 ?_;clear s hs1 hs2;right;refine b6 (λg0=>?_) (λg0=>?_)
 .right;rename_i l4 H4 hs4;obtain⟨wd,e3⟩:=yZ wy0 g0;refine bP (by grind) e3 ?_;right;rename_i t H5 hs5;have z6:Sep (tu t (Rw.tl (.lg wd))::_) _:=hs5.toT;exact q t (.lg wd) _ True.intro ((aB (n:=m+10) (z6.pull (A:=hand h _) (by symm)) nofun).sub (by ac_nf))
 right;refine b6 (λg1=>?_) (λg1=>?_)
 .walk_at "gd";rename_i l4 H4 hs4 r5 H5 r50 r51 hs5;obtain⟨v,e3,b3,rfl⟩:=jL (P:=mL) (xs:=[ul "here",ul "there",ul "left",ul b.nm]) (r:=r5) r50 (by simpa using r51) (Cg ⟨.h,rfl⟩ ⟨.t,rfl⟩ ⟨.l,rfl⟩ ⟨b,rfl⟩);refine bP (by grind) e3 ?_;walk_at "gd";rename_i r6 H6 r60 r61 hs6 r7 H7 r70 r71 hs7 r8 H8 r80 r81 hs8 r9 H9 r90 r91 hs9 l10 H10 hs10;obtain⟨v,e4,i,rfl,i0,i1⟩:=jL (xs:=[tz r7,tz (r8-2),tz (10 ^ Int.toNat 9-r9)]) (P:=inR (-1000000000) 1000000000) (r:=r6 / 3) nofun (by simp;omega) (Bb (.mk nofun nofun) (.mk nofun nofun) (.mk (by rw[sC];omega) (by rw[sC];omega)));refine bP (by grind) e4 ?_;right;rename_i t H11 hs11;have z6:Sep (tu t (Rw.tl (.sp (.set b3 i)))::_) _:=hs11.toT;exact q t (.sp (.set b3 i)) _ ⟨i0,i1⟩ ((aB (n:=m+10) (z6.pull (A:=hand h _) (by symm)) nofun).sub (by ac_nf))
 right;refine dv (λg2=>?_) (λg2=>?_)
 .walk_at "gd";rename_i r6 H6 r60 r61 hs6 r7 H7 r70 r71 hs7 r8 H8 r80 r81 hs8 l10 H10 hs10;obtain⟨v,e4,i,rfl,i0,i1⟩:=jL (xs:=[tz (r7-3),tz r8,tz (-(10 ^ Int.toNat 9))]) (P:=inR (-1000000000) 1000000000) (r:=r6 / 3) nofun (by simp;omega) (Bb (.mk nofun nofun) (.mk nofun nofun) (.mk (by rw[sC];omega) (by rw[sC];omega)));refine bP (by grind) e4 ?_;right;rename_i t H11 hs11;have z6:Sep (tu t (Rw.tl (.sp (.add b i)))::_) _:=hs11.toT;exact q t (.sp (.add b i)) _ ⟨i0,i1⟩ ((aB (n:=m+10) (z6.pull (A:=hand h _) (by symm)) nofun).sub (by ac_nf))
 right;refine dv (λg3=>?_) (λg3=>?_)
 .walk_at "gd";rename_i r6 H6 r60 r61 hs6;obtain⟨c,e3⟩:=vq r60 r61;refine bP (by grind) e3 ?_;right;rename_i t H11 hs11;have z6:Sep (tu t (Rw.tl (.sp (.take b c)))::_) _:=hs11.toT;exact q t (.sp (.take b c)) _ True.intro ((aB (n:=m+10) (z6.pull (A:=hand h _) (by symm)) nofun).sub (by ac_nf))
 right;refine b6 (λg4=>?_) (λg4=>?_)
 .right;rename_i l4 H4 hs4;rcases(by omega:wy=11\/wy=12) with rfl|rfl
  .right;rename_i t H11 hs11;have z6:Sep (tu t (Rw.tl (.sp (.read b)))::_) _:=hs11.toT;exact q t (.sp (.read b)) _ True.intro ((aB (n:=m+10) (z6.pull (A:=hand h _) (by symm)) nofun).sub (by ac_nf))
  .right;rename_i t H11 hs11;have z6:Sep (tu t (Rw.tl (.sp (.write b)))::_) _:=hs11.toT;exact q t (.sp (.write b)) _ True.intro ((aB (n:=m+10) (z6.pull (A:=hand h _) (by symm)) nofun).sub (by ac_nf))
 walk_at "gd";rename_i r6 H6 r60 r61 hs6 l7 H7 hs7 r8 H8 r80 r81 hs8;obtain⟨o,e3,ho⟩:=xp r80 r81;refine bP (by grind) e3 ?_;right;rename_i t H11 hs11;have z6:Sep (tu t (Rw.tl (.hop r6 o))::_) _:=hs11.toT;exact q t (.hop r6 o) _ ⟨⟨by omega,by omega⟩,ho⟩ ((aB (n:=m+10) (z6.pull (A:=hand h _) (by symm)) nofun).sub (by ac_nf))
def rj {t:Addr}(r:Rw)(ro:Ro K R)(hk:5<=k)(ok:r.ok)(z:Sep (tu t r.tl::O) H)(q:∀ d H',Sep (fD R d r::tu t r.tl::O) H'->Q (sK d) H'):ae tab R k 31 [sK t] H Q E:=by
 delta eX;cases r with
 |lg w=>
  have f:∀ x ∈ ([("set":Str),"add","take","read","write","hop"]),fm (ul w.s) (ul x)=false:=by cases w<;>decide+kernel
  right;refine aq (f "set" (by decide)) ?_;right;refine aq (f "add" (by decide)) ?_;right;refine aq (f "take" (by decide)) ?_;right;refine aq (f "read" (by decide)) ?_;right;refine aq (f "write" (by decide)) ?_;right;refine aq (f "hop" (by decide)) ?_;right;exact wm w nofun z q
 |hop n o=>
  right
  repeat walk_at "sc"
  intro d dx g1 g2 g3;exact Ab ro nofun ok.1.1 ok.1.2 ok.2 (cH z g1 g2 g3) (λH2 z2=>⟨rfl,q d H2 z2⟩)
 |sp s=>
  cases s with
  |set n i=>
   right
   repeat walk_at "sc"
   intro d dx g1 g2 g3;exact rB ro nofun ok.1 ok.2 (cH z g1 g2 g3) (λH2 z2=>⟨rfl,q d H2 z2⟩)
  |add n i=>
   right
   repeat walk_at "sc"
   intro d dx g1 g2 g3;exact zi ro nofun ok.1 ok.2 (cH z g1 g2 g3) (λH2 z2=>⟨rfl,q d H2 z2⟩)
  |take n m=>
   right
   repeat walk_at "sc"
   intro d dx g1 g2 g3;exact y8 ro nofun (cH z g1 g2 g3) (λH2 z2=>⟨rfl,q d H2 z2⟩)
  |read n=>
   right
   repeat walk_at "sc"
   intro d dx g1 g2 g3;exact Aa ro nofun (cH z g1 g2 g3) (λH2 z2=>⟨rfl,q d H2 z2⟩)
  |write n=>
   right
   repeat walk_at "sc"
   intro d dx g1 g2 g3;exact yW ro nofun (cH z g1 g2 g3) (λH2 z2=>⟨rfl,q d H2 z2⟩)
def aW {A:ag}:∀ {L O Δ:List ag},ax A O Δ->ax A (L++O) (L++Δ)
 | [],_,_,h=>h
 |B::L,_,_,h=>.t (aW h)
def Sep.mv:∀ {L P Δ O:List ag}{H:Hp},Sep (P++(Δ++(L++O))) H->Sep (P++(L++(Δ++O))) H
 | [],_,_,_,_,z=>z
 |A::L,P,Δ,O,H,z=>(Sep.mv (L:=L) (P:=A::P) (Δ:=Δ) (O:=O) (z.pull (aW (aW .e)))).push (aW .e)
def ie {cs:List Nat}{j:Nat}{fs:List (Str×V)}{b:Bool}(s:Sep O H)(ho:G.T.oc.contains j=true)(e:H a=some (wf (G.R.cad j) dx fs))(hb:anyS G j cs=some b)(q:∀ p H',Sep (tu p (cs.map λc=>sK (G.R.cad c))::O) H'->Q (.bl b) H'):∀ p,H p=none->kg G cs (sK a) (upd H p (v6 (cs.map λc=>sK (G.R.cad c)))) Q:=λp hp=>by
 unfold kg;refine .inr ⟨a,j,b,rfl,.inl ⟨ho,dx,fs,?_⟩,hb,q p _ (s.om hp)⟩;rw[af λz=>by rw[z,hp]at e;cases e];exact e
inductive Itm where
 |row (r:Rw)|dO (w:Str)|tms (n:Int) (b:List Itm)|whn (o:Int) (b c:List Itm)
abbrev kN (ns:List Str):Nat->Itm->Prop
 |_,.row r=>r.ok
 |_,.dO w=>w ∈ ns
 |n+1,.tms m b=>(0<=m/\m<=9)/\b.length<=30/\∀ i ∈ b,kN ns n i
 |n+1,.whn o b c=>(o=0\/o=1)/\(b.length<=30/\∀ i ∈ b,kN ns n i)/\c.length<=30/\∀ i ∈ c,kN ns n i
 |0,.tms _ _=>False
 |0,.whn _ _ _=>False
noncomputable abbrev jv (ns:List Str)(n:Nat)(b:List Itm):Prop:=b.length<=30/\∀ i ∈ b,kN ns n i
abbrev mV (c:Str->Int):Nat->Itm->Int
 |_,.row _=>1
 |_,.dO w=>c w
 |n+1,.tms m b=>m*(b.map (mV c n)).sum
 |n+1,.whn _ b d=>1+(b.map (mV c n)).sum+(d.map (mV c n)).sum+(if d.length=0 then 0 else 1)
 |0,.tms _ _=>0
 |0,.whn _ _ _=>0
noncomputable abbrev c5 (c:Str->Int)(n:Nat)(b:List Itm):Int:=(b.map (mV c n)).sum
abbrev cL (P:V->α->Prop)(vs:List V)(b:List α):Prop:=vs.length=b.length/\∀ (j:Nat) v i,vs[j]? =some v->b[j]? =some i->P v i
def cL.map {P P':V->α->Prop}{b:List α}(h:cL P vs b)(f:∀ v i,P v i->P' v i):cL P' vs b:=⟨h.1,λj v i h1 h2=>f v i (h.2 j v i h1 h2)⟩
def cL.nil {P:V->α->Prop}:cL P [] []:=⟨rfl,λj v i h _=>nomatch h⟩
def cL.snoc {P:V->α->Prop}{b:List α}{i:α}(h:cL P vs b)(p:P v i):cL P (vs++[v]) (b++[i]):=by
 refine⟨by rw[ci,ci,h.1];rfl,λj x y h1 h2=>?_⟩;rcases Nat.lt_trichotomy j vs.length with hj|hj|hj
 .rw[getElem?_append_left hj]at h1;rw[getElem?_append_left (h.1▸hj)]at h2;exact h.2 j x y h1 h2
 .subst hj;rw[getElem?_append_right (ol _),Nat.sub_self]at h1;rw[getElem?_append_right (Nat.le_of_eq h.1.symm),h.1,Nat.sub_self]at h2;cases h1;cases h2;exact p
 .rw[List.getElem?_eq_none (by rw[ci];simp;omega)]at h1;cases h1
def cL.get {P:V->α->Prop}{b:List α}{j:Nat}(h:cL P vs b)(e:vs[j]? =some v):∃ i,b[j]? =some i/\P v i:=by
 have hj:=(re.mp e).1;have e2:b[j]? =some (b[j]'(by rw[<-h.1];exact hj)):=lf _;exact⟨_,e2,h.2 j v _ e e2⟩
abbrev g8 (F:List ag):Nat->V->Itm->Prop
 |_,v,.row r=>∃ t,v=sK t/\tu t r.tl ∈ F
 |_,v,.dO w=>∃ t,v=sK t/\tu t [ul "do",ul w] ∈ F
 |n+1,v,.tms m b=>∃ t l vs,v=sK t/\tu t [ul "times",tz m,sK l] ∈ F/\pt l (v4 vs) ∈ F/\cL (g8 F n) vs b
 |n+1,v,.whn o b c=>∃ t l vs l' vs',v=sK t/\tu t [ul "when",tz o,sK l,sK l'] ∈ F/\(pt l (v4 vs) ∈ F/\cL (g8 F n) vs b)/\pt l' (v4 vs') ∈ F/\cL (g8 F n) vs' c
 |0,_,.tms _ _=>False
 |0,_,.whn _ _ _=>False
abbrev cP (R:Rt)(F:List ag):Nat->V->Itm->Prop
 |_,v,.row r=>∃ d,v=sK d/\fD R d r ∈ F
 |_,v,.dO w=>∃ d dx,v=sK d/\pt d (wf (R.cad 10) dx [("called",ul w)]) ∈ F
 |n+1,v,.tms m b=>∃ d dx l vs,v=sK d/\pt d (wf (R.cad 11) dx [("many",tz m),("block",sK l)]) ∈ F/\pt l (v4 vs) ∈ F/\cL (cP R F n) vs b
 |n+1,v,.whn o b c=>∃ d dx l vs l' vs',v=sK d/\pt d (wf (R.cad 12) dx [("on",tz o),("block",sK l),("other",sK l')]) ∈ F/\(pt l (v4 vs) ∈ F/\cL (cP R F n) vs b)/\pt l' (v4 vs') ∈ F/\cL (cP R F n) vs' c
 |0,_,.tms _ _=>False
 |0,_,.whn _ _ _=>False
noncomputable abbrev gC (F:List ag)(n:Nat)(v:V)(b:List Itm):Prop:=∃ l vs,v=sK l/\pt l (v4 vs) ∈ F/\cL (g8 F n) vs b
noncomputable abbrev ow (R:Rt)(F:List ag)(n:Nat)(v:V)(b:List Itm):Prop:=∃ l vs,v=sK l/\pt l (v4 vs) ∈ F/\cL (cP R F n) vs b
def g8.mono {F':List ag}(h:∀ A ∈ F,A ∈ F'):∀ {n:Nat}{v:V}{i:Itm},g8 F n v i->g8 F' n v i:=by
 intro n
 induction n with
 |zero=>
  intro v i;cases i with
  |row r=>exact λ⟨t,e,m⟩=>⟨t,e,h _ m⟩
  |dO w=>exact λ⟨t,e,m⟩=>⟨t,e,h _ m⟩
  |tms m b=>exact λz=>z
  |whn o b c=>exact λz=>z
 |succ n ih=>
  intro v i;cases i with
  |row r=>exact λ⟨t,e,m⟩=>⟨t,e,h _ m⟩
  |dO w=>exact λ⟨t,e,m⟩=>⟨t,e,h _ m⟩
  |tms m b=>exact λ⟨t,l,vs,e,m1,m2,a⟩=>⟨t,l,vs,e,h _ m1,h _ m2,a.map λv i=>ih⟩
  |whn o b c=>exact λ⟨t,l,vs,l',vs',e,m1,⟨m2,a⟩,m3,a'⟩=>⟨t,l,vs,l',vs',e,h _ m1,⟨h _ m2,a.map λv i=>ih⟩,h _ m3,a'.map λv i=>ih⟩
def cP.mono {F':List ag}(h:∀ A ∈ F,A ∈ F'):∀ {n:Nat}{v:V}{i:Itm},cP R F n v i->cP R F' n v i:=by
 intro n
 induction n with
 |zero=>
  intro v i;cases i with
  |row r=>exact λ⟨t,e,m⟩=>⟨t,e,h _ m⟩
  |dO w=>exact λ⟨t,x,e,m⟩=>⟨t,x,e,h _ m⟩
  |tms m b=>exact λz=>z
  |whn o b c=>exact λz=>z
 |succ n ih=>
  intro v i;cases i with
  |row r=>exact λ⟨t,e,m⟩=>⟨t,e,h _ m⟩
  |dO w=>exact λ⟨t,x,e,m⟩=>⟨t,x,e,h _ m⟩
  |tms m b=>exact λ⟨t,x,l,vs,e,m1,m2,a⟩=>⟨t,x,l,vs,e,h _ m1,h _ m2,a.map λv i=>ih⟩
  |whn o b c=>exact λ⟨t,x,l,vs,l',vs',e,m1,⟨m2,a⟩,m3,a'⟩=>⟨t,x,l,vs,l',vs',e,h _ m1,⟨h _ m2,a.map λv i=>ih⟩,h _ m3,a'.map λv i=>ih⟩
variable {b:List Itm}
def gC.mono {F':List ag}{n:Nat}(h:∀ A ∈ F,A ∈ F'):gC F n v b->gC F' n v b:=λ⟨l,vs,e,m,a⟩=>⟨l,vs,e,h _ m,a.map λv i=>g8.mono h⟩
def ow.mono {F':List ag}{n:Nat}(h:∀ A ∈ F,A ∈ F'):ow R F n v b->ow R F' n v b:=λ⟨l,vs,e,m,a⟩=>⟨l,vs,e,h _ m,a.map λv i=>cP.mono h⟩
def kN.mono {ns':List Str}(h:∀ w ∈ ns,w ∈ ns'):∀ {n:Nat}{i:Itm},kN ns n i->kN ns' n i:=by
 intro n
 induction n with
 |zero=>
  intro i;cases i with
  |row r=>exact λz=>z
  |dO w=>exact λz=>h _ z
  |tms m b=>exact λz=>z
  |whn o b c=>exact λz=>z
 |succ n ih=>
  intro i;cases i with
  |row r=>exact λz=>z
  |dO w=>exact λz=>h _ z
  |tms m b=>exact λ⟨e,l,a⟩=>⟨e,l,λi hi=>ih (a i hi)⟩
  |whn o b c=>exact λ⟨e,⟨l,a⟩,l',a'⟩=>⟨e,⟨l,λi hi=>ih (a i hi)⟩,l',λi hi=>ih (a' i hi)⟩
def dF {A:ag}:∀ {F:List ag},A ∈ F->∃ Δ,ax A F Δ
 |B::F,h=>by
  rcases lv.mp h with rfl|h
  .exact⟨F,.e⟩
  .obtain⟨Δ,p⟩:=dF h;exact⟨B::Δ,.t p⟩
def fz {o:HO}{G:List ag}(h:pt a o ∈ F)(z:Sep (G++F) H):H a=some o:=let⟨_,p⟩:=dF h;z.get (aW p)
def jI {t:Addr}{G:List ag}(h:tu t xs ∈ F)(z:Sep (G++F) H):H t=some (v6 xs):=let⟨_,p⟩:=dF h;z.zL (aW p)
abbrev Nm (w:Str):Prop:=(1<=w.length/\w.length<=8)/\∀ c ∈ w.cps.toList,97<=c/\c<=122
def qW:((List.range 26).all λj=>!(Builtin.Str.occurrences ("abcdefghijklmnopqrstuvwxyz":Str) ⟨#[j+97]⟩ 0 ("abcdefghijklmnopqrstuvwxyz":Str).length 1).isEmpty)=true:=by decide+kernel
def AL {i j:Str}{b:Bool}(e:(!(Builtin.Str.occurrences j i 0 j.length 1).isEmpty)=b)(q:Q (.bl b) H):j5 K false (ul i) (ul j) H Q:=by unfold j5;exact⟨i,rfl,by rw[if_neg (by decide),e];exact q⟩
def sN {z:Str}(hz:z.length<=100000)(q:Q (tz z.length) H):ja G .len [ul z] H Q:=by unfold ja;exact⟨_,z.length,rfl,⟨eY nofun,rfl⟩,q⟩
def uq (h:97<=c/\c<=122)(q:Q (.bl true) H):j5 K false (ul ⟨#[c]⟩) (ul ("abcdefghijklmnopqrstuvwxyz":Str)) H Q:=by
 refine AL ?_ q;have z:=all_eq_true.mp qW (c-97) (mem_range.mpr nofun);rw[show c-97+97=c by omega]at z;exact z
def qI (ro:Ro K R)(hk:1<=k)(hw:Nm w)(z:Sep O H)(q:∀ H',Sep O H'->Q (.bl true) H'):ae tab R k 18 [ul w] H Q E:=by
 obtain⟨⟨h1,h2⟩,h3⟩:=hw;delta gI;right;refine sN nofun ?_;right;refine cg (decide_eq_true nofun) ?_;right;simp only[ro.g_LONGEST_NAME];right;refine cg (decide_eq_true nofun) ?_;right;refine xS (z:=w) (by show w.length<=1000;omega) (λD ys H=>ys=pi ys.length (.bl true)/\Sep (pt D (v4 ys)::O) H) (λD hD=>⟨rfl,z.new (o:=v4 []) hD⟩) (λD ys c H hc hI=>?_) (λD ys H hl hI=>?_)
 .obtain⟨e,z1⟩:=hI;have hcm:c ∈ w.cps.toList:=by
   have:=Array.mem_of_getElem? hc;exact Array.mem_def.mp this |> λh=>h
  right;simp only[ro.g_LETTERS];left;refine uq (h3 c hcm) ?_;have hyl:ys.length<w.length:=(Array.getElem?_eq_some_iff.mp hc).1;refine kS.mk z1.at nofun ⟨?_,z1.set rfl⟩;rw[ci,f8,List.replicate_succ',<-e]
 .obtain⟨e,z1⟩:=hI;left;refine qa (bs:=pi ys.length true) (K:=K) rfl (by rw[z1.at,e,List.map_replicate,List.length_replicate]) ?_;rw[show(pi ys.length true).all id=true by rw[all_eq_true];intro x hx;rw[List.eq_of_mem_replicate hx];rfl];exact q _ z1.drop
abbrev a7 (cs:List (Str×Int))(w:Str):Int:=(cs.lookup w).getD 0
abbrev aD (cs:List (Str×Int)):List (Key×V):=cs.map λp=>(Sum.inr p.1,tz p.2)
def iz {w:Str}:∀ {cs:List (Str×Int)},w ∈ cs.map (·.1)->aX (aD cs) (.inr w)=some (tz (a7 cs w))
 |(x,n)::cs,h=>by
  unfold a7;rw[lookup_cons]
  by_cases e:w=x
  .subst e;rw[beq_self_eq_true];exact bD rfl
  .rw[beq_eq_false_iff_ne.mpr e];refine(cn (λz=>e (Sum.inr.inj z).symm)).trans (iz ?_);rcases lv.mp h with h|h
   .exact absurd h e
   .exact h
noncomputable abbrev bg (R:Rt)(B dx d1 d2:Addr)(kb:List (Key×V))(cs:List (Str×Int))(O:List ag):List ag:=pt B (wf (R.cad 13) dx [("blocks",sK d1),("counts",sK d2)])::pt d1 (.dK kb)::pt d2 (.dK (aD cs))::O
section
variable {B dx d1 d2:Addr}{kb:List (Key×V)}{cs:List (Str×Int)}{ns:List Str}{F G:List ag}{v:V}{n:Nat}
def kZ (hk:1<=k)(hw:w ∈ cs.map (·.1))(z:Sep (bg R B dx d1 d2 kb cs O) H)(q:Q (tz (a7 cs w)) H):ae tab R k 26 [sK B,ul w] H Q E:=by
 delta bh;right;exact zc (k:=.inr w) (z.get .k2) (iz hw) q
def qR (r:Rw):tab.oc.contains r.cl=true/\tab.sub.lookup (r.cl,10)=some false/\tab.sub.lookup (r.cl,11)=some false/\tab.sub.lookup (r.cl,12)=some false:=by
 cases r with
 |lg w=>cases w<;>exact⟨rfl,rfl,rfl,rfl⟩
 |sp s=>cases s<;>exact⟨rfl,rfl,rfl,rfl⟩
 |hop n o=>exact⟨rfl,rfl,rfl,rfl⟩
def By {r:Rw}(h:fD R d r ∈ F)(z:Sep (G++F) H):∃ dx fs,H d=some (wf (R.cad r.cl) dx fs):=let⟨_,p⟩:=dF h;yy z (aW p)
abbrev rP (K:W.Frag)(R:Rt)(B dx d1 d2:Addr)(kb:List (Key×V))(cs:List (Str×Int))(ns:List Str)(F:List ag)(n:Nat):Prop:=∀ {k:Nat}{G:List ag}{v:V}{b:List Itm}{H:Hp}{Q:VK}{E:XK},3*n+3<=k->jv ns n b->ow R F n v b->Sep (bg R B dx d1 d2 kb cs (G++F)) H->(∀ H',Sep (bg R B dx d1 d2 kb cs (G++F)) H'->Q (tz (c5 (a7 cs) n b)) H')->ae tab R k 22 [sK B,v] H Q E
abbrev vw (K:W.Frag)(R:Rt)(B dx d1 d2:Addr)(kb:List (Key×V))(cs:List (Str×Int))(ns:List Str)(F:List ag)(n:Nat):Prop:=∀ {k:Nat}{G:List ag}{v:V}{i:Itm}{H:Hp}{Q:VK}{E:XK},3*n+2<=k->kN ns n i->cP R F n v i->Sep (bg R B dx d1 d2 kb cs (G++F)) H->(∀ H',Sep (bg R B dx d1 d2 kb cs (G++F)) H'->Q (tz (mV (a7 cs) n i)) H')->ae tab R k 20 [sK B,v] H Q E
def lV (ro:Ro K R)(hns:∀ w ∈ ns,w ∈ cs.map (·.1)) (ih:∀ m,n=m+1->rP K R B dx d1 d2 kb cs ns F m):vw K R B dx d1 d2 kb cs ns F n:=by
 intro k G v i H Q E hk ok hi z q;have zg:Sep ([pt B (wf (R.cad 13) dx [("blocks",sK d1),("counts",sK d2)]),pt d1 (.dK kb),pt d2 (.dK (aD cs))]++G++F) H:=by simpa only [le,cons_append,nil_append] using z
 delta dW;cases i with
 |row r=>
  obtain⟨d,rfl,m⟩:∃ d,v=sK d/\fD R d r ∈ F:=by cases n<;>exact hi
  obtain⟨x,fs,e⟩:=By m zg;obtain⟨o1,o2,o3,o4⟩:=qR r;right;refine aV e o1 o2 ?_;right;refine aV e o1 o3 ?_;right;refine aV e o1 o4 ?_;right;have:=q H z;cases n<;>exact this
 |dO w=>
  obtain⟨d,x,rfl,m⟩:∃ d dx,v=sK d/\pt d (wf (R.cad 10) dx [("called",ul w)]) ∈ F:=by cases n<;>exact hi
  have ok':w ∈ ns:=by cases n<;>exact ok
  have e:=fz m zg;right;refine aV e rfl rfl ?_;right;refine⟨_,13,_,_,_,rfl,z.at,rfl,rfl,?_⟩;right;refine cj e rfl rfl rfl ?_;refine kZ nofun (hns w ok') z ?_;have:=q H z;cases n<;>exact this
 |tms m b=>
  cases n with
  |zero=>exact hi.elim
  |succ n=>
   obtain⟨d,x,l,vs,rfl,m1,m2,a⟩:=hi;have e:=fz m1 zg;right;refine aV e rfl rfl ?_;right;refine aV e rfl rfl ?_;right;refine cj e rfl rfl rfl ?_;right;refine cj e rfl rfl rfl ?_;right;refine ih n rfl nofun ok.2 ⟨l,vs,rfl,m2,a⟩ z (λH' z'=>?_);left;exact⟨.inl ⟨by have:=ok.1.1;omega,by have:=ok.1.2;omega⟩,q H' z'⟩
 |whn o b c=>
  cases n with
  |zero=>exact hi.elim
  |succ n=>
   obtain⟨d,x,l,vs,l',vs',rfl,m1,⟨m2,a⟩,m3,a'⟩:=hi;have e:=fz m1 zg;right;refine aV e rfl rfl ?_;right;refine aV e rfl rfl ?_;right;refine aV e rfl rfl ?_;right;delta dz;right;refine cj e rfl rfl rfl ?_;right;refine ih n rfl nofun ok.2.1 ⟨l,vs,rfl,m2,a⟩ z (λH' z'=>?_);have zg':Sep ([pt B (wf (R.cad 13) dx [("blocks",sK d1),("counts",sK d2)]),pt d1 (.dK kb),pt d2 (.dK (aD cs))]++G++F) H':=by simpa only [le,cons_append,nil_append] using z'
   have e':=fz m1 zg';have e3:=fz m3 zg';right;refine cj e' rfl rfl rfl ?_;right;refine my e3 ?_;right;refine dv (λg=>?_) (λg=>?_)
   .right;have:=q H' z';have hc:c.length=0:=by rw[<-a'.1];omega
    have hc2:c=[]:=length_eq_zero_iff.mp hc;subst hc2;have e:mV (a7 cs) (n+1) (.whn o b [])=1+c5 (a7 cs) n b:=by show 1+(b.map _).sum+0+(if 0=0 then 0 else 1)=1+(b.map _).sum;simp
    rw[e]at this;exact this
   .right;refine cj e' rfl rfl rfl ?_;right;refine ih n rfl nofun ok.2.2 ⟨l',vs',rfl,m3,a'⟩ z' (λH2 z2=>?_);have:=q H2 z2;have hc:c.length≠0:=by rw[<-a'.1];omega
    have e:mV (a7 cs) (n+1) (.whn o b c)=1+c5 (a7 cs) n b+1+c5 (a7 cs) n c:=by show 1+(b.map _).sum+(c.map _).sum+(if c.length=0 then 0 else 1)=1+(b.map _).sum+1+(c.map _).sum;rw[if_neg hc];omega
    rw[e]at this;exact this
def jV (ro:Ro K R)(hi:vw K R B dx d1 d2 kb cs ns F n):rP K R B dx d1 d2 kb cs ns F n:=by
 intro k G v b H Q E hk ok hv z q;obtain⟨l,vs,rfl,m,a⟩:=hv;have zg:∀ {H:Hp}{A:List ag},Sep (A++bg R B dx d1 d2 kb cs (G++F)) H->H l=some (v4 vs):=λ{H A} z=>by
  refine fz (G:=A++[pt B (wf (R.cad 13) dx [("blocks",sK d1),("counts",sK d2)]),pt d1 (.dK kb),pt d2 (.dK (aD cs))]++G) m ?_;simpa only [le,cons_append,nil_append] using z
 delta cY;right;refine lC (zg (A:=[]) z) ?_;have hl:vs.length<=30:=by rw[a.1];exact ok.1
 refine kJ (xs:=vs) nofun (λD ys H=>ys=((b.take ys.length).map (mV (a7 cs) n)).map tz/\Sep (pt D (v4 ys)::bg R B dx d1 d2 kb cs (G++F)) H) (λD ys H hI=>aA.of (zg (A:=[_]) hI.2)) (λD hD=>⟨rfl,z.new (o:=v4 []) hD⟩) (λD ys x H hx hI=>?_) (λD ys H hl2 hI=>?_)
 .obtain⟨e,z1⟩:=hI;obtain⟨i,hb,hi2⟩:=a.get hx;have hyl:=(re.mp hx).1;have z2:Sep (bg R B dx d1 d2 kb cs ((pt D (v4 ys)::G)++F)) H:=z1.sub (.cons .k1 (.cons .k1 (.cons .k1 .refl)));right;refine hi (k:=k-1) (G:=pt D (v4 ys)::G) nofun (ok.2 i (cr hb)) hi2 z2 (λH' z3=>?_);have z4:Sep (pt D (v4 ys)::bg R B dx d1 d2 kb cs (G++F)) H':=z3.pull .k3;refine kS.mk z4.at nofun ⟨?_,z4.set rfl⟩;rw[ci,f8,take_succ,hb];simp only[Option.toList_some,dL,map_cons,List.map_nil];rw[<-e]
 .obtain⟨e,z1⟩:=hI;left;refine xZ (K:=K) (ns:=b.map (mV (a7 cs) n)) rfl ?_ (q _ z1.drop);rw[z1.at,e,hl2,a.1,take_of_length_le (ol _)]
def pJ (ro:Ro K R)(hns:∀ w ∈ ns,w ∈ cs.map (·.1)):∀ n,rP K R B dx d1 d2 kb cs ns F n
 |0=>jV ro (lV ro hns λm e=>absurd e nofun)
 |n+1=>jV ro (lV ro hns λm e=>by cases e;exact pJ ro hns n)
end
def zq (e:Rd H a (.dK kvs))(q:Q (.bl (aX kvs x).isSome) H):j5 K false (kV x) (sK a) H Q:=by unfold j5;exact .inr (.inl ⟨_,(show lA H a (kV x) (aX kvs x) from .inl ⟨kvs,x,e,rfl,rfl⟩),q⟩)
def oY (h:x ∈ kvs.map (·.1)):(aX kvs x).isSome=true:=by
 rw[<-dM,any_eq_true];obtain⟨kv,m,e⟩:=List.mem_map.mp h;exact⟨kv,m,decide_eq_true e⟩
def p9 (h:¬ x ∈ kvs.map (·.1)):(aX kvs x).isSome=false:=by
 rw[<-dM,Bool.eq_false_iff];intro z;obtain⟨kv,m,e⟩:=any_eq_true.mp z;exact h (List.mem_map.mpr ⟨kv,m,of_decide_eq_true e⟩)
section
variable {B dx d1 d2:Addr}{kb:List (Key×V)}{cs:List (Str×Int)}{ns:List Str}{F G:List ag}{v:V}{n:Nat}
def vD (hk:1<=k)(z:Sep (bg R B dx d1 d2 kb cs O) H)(q:Q (.bl (aX kb (.inr w)).isSome) H):ae tab R k 24 [sK B,ul w] H Q E:=by
 delta fR;right;exact zq (x:=.inr w) (.inl (z.get .k1)) q
abbrev pq (K:W.Frag)(R:Rt)(B dx d1 d2:Addr)(kb:List (Key×V))(cs:List (Str×Int))(ns:List Str)(F:List ag)(n:Nat):Prop:=∀ {k:Nat}{G:List ag}{v:V}{b:List Itm}{H:Hp}{Q:VK}{E:XK},n+2<=k->jv ns n b->ow R F n v b->Sep (bg R B dx d1 d2 kb cs (G++F)) H->(∀ H',Sep (bg R B dx d1 d2 kb cs (G++F)) H'->Q ut H')->ae tab R k 19 [sK B,v] H Q E
def sj (ro:Ro K R)(hns:∀ w ∈ ns,Sum.inr w ∈ kb.map (·.1)) (ih:∀ m,n=m+1->pq K R B dx d1 d2 kb cs ns F m):pq K R B dx d1 d2 kb cs ns F n:=by
 intro k G v b H Q E hk ok hv z q;obtain⟨l,vs,rfl,m,a⟩:=hv;have zg:∀ {H:Hp}{d:Addr}{o:HO}{A:List ag},pt d o ∈ F->Sep (A++bg R B dx d1 d2 kb cs (G++F)) H->H d=some o:=λ{H d o A} m z=>by
  refine fz (G:=A++[pt B (wf (R.cad 13) dx [("blocks",sK d1),("counts",sK d2)]),pt d1 (.dK kb),pt d2 (.dK (aD cs))]++G) m ?_;simpa only [le,cons_append,nil_append] using z
 delta cX;right;refine lC (zg (A:=[]) m z) ?_;have hl:vs.length<=30:=by rw[a.1];exact ok.1
 refine ft (xs:=vs) (λj U H=>∃ u,U=[some (sK B),some (sK l),u]/\Sep (bg R B dx d1 d2 kb cs (G++F)) H) ⟨_,rfl,z⟩ ?_ ?_ ?_
 .rintro j U H ⟨u,rfl,z⟩;exact aA.of (zg (A:=[]) m z)
 .rintro j x U H hx ⟨u,rfl,z⟩;obtain⟨i,hb,hi⟩:=a.get hx;have ok:=ok.2 i (cr hb);cases i with
  |row r=>
   obtain⟨d,rfl,m⟩:∃ d,x=sK d/\fD R d r ∈ F:=by cases n<;>exact hi
   obtain⟨y,fs,e⟩:=By (G:=[pt B (wf (R.cad 13) dx [("blocks",sK d1),("counts",sK d2)]),pt d1 (.dK kb),pt d2 (.dK (aD cs))]++G) m (by simpa only [le,cons_append,nil_append] using z);obtain⟨o1,o2,o3,o4⟩:=qR r;right;refine aV e o1 o2 ?_;right;refine λp hp=>ie z o1 e (b:=false) (by show(match tab.sub.lookup (r.cl,11) with|some true=>some true|some false=>(match tab.sub.lookup (r.cl,12) with|some true=>some true|some false=>some false|none=>none)|none=>none)=_;rw[o3,o4]) (λp H2 z2=>?_) p hp
   right;obtain⟨y,fs,e⟩:=By (G:=[pt B (wf (R.cad 13) dx [("blocks",sK d1),("counts",sK d2)]),pt d1 (.dK kb),pt d2 (.dK (aD cs))]++G) m (by simpa only [le,cons_append,nil_append] using z2.drop);refine aV e o1 o4 ?_;right;exact⟨_,rfl,z2.drop⟩
  |dO w=>
   obtain⟨d,y,rfl,m⟩:∃ d dx,x=sK d/\pt d (wf (R.cad 10) dx [("called",ul w)]) ∈ F:=by cases n<;>exact hi
   have ok':w ∈ ns:=by cases n<;>exact ok
   have e:=zg (A:=[]) m z;right;refine aV e rfl rfl ?_;right;refine⟨_,13,_,_,_,rfl,z.at,rfl,rfl,?_⟩;right;refine cj e rfl rfl rfl ?_;refine vD nofun z ?_;rw[oY (hns w ok')];right;refine λp hp=>ie z rfl e (b:=false) rfl (λp H2 z2=>?_) p hp
   right;refine aV (zg (A:=[]) m z2.drop) rfl rfl ?_;right;exact⟨_,rfl,z2.drop⟩
  |tms t c=>
   cases n with
   |zero=>exact hi.elim
   |succ n=>
    obtain⟨d,y,l1,vs1,rfl,m1,m2,a1⟩:=hi;have e:=zg (A:=[]) m1 z;right;refine aV e rfl rfl ?_;right;refine λp hp=>ie z rfl e (b:=true) rfl (λp H2 z2=>?_) p hp
    right;refine cj (zg (A:=[]) m1 z2.drop) rfl rfl rfl ?_;right;refine ih n rfl nofun ok.2 ⟨l1,vs1,rfl,m2,a1⟩ z2.drop (λH3 z3=>?_);right;refine aV (zg (A:=[]) m1 z3) rfl rfl ?_;right;exact⟨_,rfl,z3⟩
  |whn t c c2=>
   cases n with
   |zero=>exact hi.elim
   |succ n=>
    obtain⟨d,y,l1,vs1,l2,vs2,rfl,m1,⟨m2,a1⟩,m3,a2⟩:=hi;have e:=zg (A:=[]) m1 z;right;refine aV e rfl rfl ?_;right;refine λp hp=>ie z rfl e (b:=true) rfl (λp H2 z2=>?_) p hp
    right;refine cj (zg (A:=[]) m1 z2.drop) rfl rfl rfl ?_;right;refine ih n rfl nofun ok.2.1 ⟨l1,vs1,rfl,m2,a1⟩ z2.drop (λH3 z3=>?_);right;refine aV (zg (A:=[]) m1 z3) rfl rfl ?_;right;refine cj (zg (A:=[]) m1 z3) rfl rfl rfl ?_;right;refine ih n rfl nofun ok.2.2 ⟨l2,vs2,rfl,m3,a2⟩ z3 (λH4 z4=>?_);right;exact⟨_,rfl,z4⟩
 .rintro U H ⟨u,rfl,z⟩;right;exact q _ z
def kz (ro:Ro K R)(hns:∀ w ∈ ns,Sum.inr w ∈ kb.map (·.1)):∀ n,pq K R B dx d1 d2 kb cs ns F n
 |0=>sj ro hns λm e=>absurd e nofun
 |n+1=>sj ro hns λm e=>by cases e;exact kz ro hns n
end
def uP {x:α}{xs:List α}:eP (x::xs) 0=some x:=L2.dw (xs:=x::xs) (j:=0) rfl
def ne_nil {b:Addr}(e1:H a=some (v4 xs))(e2:H b=some (v4 []))(ne:a≠b)(q:Q (.bl (!decide (xs.length=0))) H):cU K true (sK a) (sK b) H Q:=by
 by_cases h:xs.length=0
 .rw[decide_eq_true h]at q;refine pH (.ll (n:=0) (e:=λ_=>true) (aA.of e1) (aA.of e2) h (λj x y _ hy=>nomatch hy)) (by decide) ne ?_;rw[h];exact q
 .rw[decide_eq_false h]at q;exact pH (.lln (n:=0) (aA.of e1) (aA.of e2) h) (by decide) ne q
def eq_nil {b:Addr}(e1:H a=some (v4 xs))(e2:H b=some (v4 []))(ne:a≠b)(q:Q (.bl (decide (xs.length=0))) H):cU K false (sK a) (sK b) H Q:=by
 by_cases h:xs.length=0
 .rw[decide_eq_true h]at q;refine qV (.ll (n:=0) (e:=λ_=>true) (aA.of e1) (aA.of e2) h (λj x y _ hy=>nomatch hy)) (by decide) ne ?_;rw[h];exact q
 .rw[decide_eq_false h]at q;exact qV (.lln (n:=0) (aA.of e1) (aA.of e2) h) (by decide) ne q
def vH {p:Addr}{o o':HO}{G:List ag}(h:pt a o ∈ F)(z:Sep (pt p o'::(G++F)) H):a≠p:=let⟨_,pl⟩:=dF h;(z.pull (.t (aW pl))).ne
def kL (r:Rw):∃ s rest,r.tl=ul s::rest/\fm (ul s) (ul "do")=false/\fm (ul s) (ul "times")=false/\fm (ul s) (ul "when")=false:=by
 cases r with
 |lg w=>cases w<;>exact⟨_,_,rfl,by decide+kernel,by decide+kernel,by decide+kernel⟩
 |sp s=>cases s<;>exact⟨_,_,rfl,by decide+kernel,by decide+kernel,by decide+kernel⟩
 |hop n o=>exact⟨_,_,rfl,by decide+kernel,by decide+kernel,by decide+kernel⟩
section
variable {cd:Addr}{cs:List (Str×Int)}{ns:List Str}{F G:List ag}{v:V}{n:Nat}
abbrev oz (K:W.Frag)(R:Rt)(cd:Addr)(cs:List (Str×Int))(ns:List Str)(F:List ag)(n:Nat):Prop:=∀ {k:Nat}{G:List ag}{v:V}{b:List Itm}{H:Hp}{Q:VK}{E:XK},n+1<=k->jv ns n b->gC F n v b->Sep (pt cd (.dK (aD cs))::(G++F)) H->(∀ H',Sep (pt cd (.dK (aD cs))::(G++F)) H'->Q (tz (c5 (a7 cs) n b)) H')->ae tab R k 42 [sK cd,v] H Q E
def rY (ro:Ro K R)(hns:∀ w ∈ ns,w ∈ cs.map (·.1)) (ih:∀ m,n=m+1->oz K R cd cs ns F m):oz K R cd cs ns F n:=by
 intro k G v b H Q E hk ok hv z q;obtain⟨l,vs,rfl,m,a⟩:=hv;have zg:∀ {H:Hp}{d:Addr}{o:HO},pt d o ∈ F->Sep (pt cd (.dK (aD cs))::(G++F)) H->H d=some o:=λ{H d o} m z=>fz (G:=pt cd (.dK (aD cs))::G) m z
 have zt:∀ {H:Hp}{d:Addr}{xs:List V},tu d xs ∈ F->Sep (pt cd (.dK (aD cs))::(G++F)) H->H d=some (v6 xs):=λ{H d xs} m z=>jI (G:=pt cd (.dK (aD cs))::G) m z
 delta dQ;right;refine lC (zg m z) ?_;have hl:vs.length<=30:=by rw[a.1];exact ok.1
 refine ft (xs:=vs) (λj U H=>∃ u,U=[some (sK cd),some (sK l),some (tz (c5 (a7 cs) n (b.take j))),u]/\Sep (pt cd (.dK (aD cs))::(G++F)) H) ⟨_,rfl,z⟩ ?_ ?_ ?_
 .rintro j U H ⟨u,rfl,z⟩;exact aA.of (zg m z)
 .rintro j x U H hx ⟨u,rfl,z⟩;obtain⟨i,hb,hi⟩:=a.get hx;have ok:=ok.2 i (cr hb);have step:∀ {N:Int},N=mV (a7 cs) n i->c5 (a7 cs) n (b.take j)+N=c5 (a7 cs) n (b.take (j+1)):=λ{N} e=>by
   subst e;have e2:b.take (j+1)=b.take j++[i]:=by rw[take_succ,hb];rfl
   rw[e2];show _=((b.take j++[i]).map _).sum;rw[dL,List.sum_append];simp only[map_cons,List.map_nil,sum_cons,List.sum_nil,Int.add_zero]
  cases i with
  |row r=>
   obtain⟨d,rfl,m⟩:∃ t,x=sK t/\tu t r.tl ∈ F:=by cases n<;>exact hi
   obtain⟨s,rest,er,h1,h2,h3⟩:=kL r;rw[er]at m;have e:=zt m z;right;refine av e uP ?_;right;refine aq h1 ?_;right;refine av e uP ?_;right;refine aq h2 ?_;right;refine av e uP ?_;right;refine aq h3 ?_;right;exact⟨_,by rw[<-step (N:=1) (by cases n<;>rfl)];rfl,z⟩
  |dO w=>
   obtain⟨d,rfl,m⟩:∃ t,x=sK t/\tu t [ul "do",ul w] ∈ F:=by cases n<;>exact hi
   have ok':w ∈ ns:=by cases n<;>exact ok
   have e:=zt m z;right;refine av e rfl ?_;right;refine av e rfl ?_;right;refine zc (k:=.inr w) z.at (iz (hns w ok')) ?_;right;exact⟨_,by rw[<-step (N:=a7 cs w) (by cases n<;>rfl)];rfl,z⟩
  |tms t c=>
   cases n with
   |zero=>exact hi.elim
   |succ n=>
    obtain⟨d,l1,vs1,rfl,m1,m2,a1⟩:=hi;have e:=zt m1 z;right;refine av e rfl ?_;right;refine av e rfl ?_;right;refine av e rfl ?_;right;refine av e rfl ?_;right;refine ih n rfl nofun ok.2 ⟨l1,vs1,rfl,m2,a1⟩ z (λH3 z3=>?_);left;refine⟨.inl ⟨by have:=ok.1.1;omega,by have:=ok.1.2;omega⟩,?_⟩;right;exact⟨_,by rw[<-step (N:=t*c5 (a7 cs) n c) rfl];rfl,z3⟩
  |whn t c c2=>
   cases n with
   |zero=>exact hi.elim
   |succ n=>
    obtain⟨d,l1,vs1,l2,vs2,rfl,m1,⟨m2,a1⟩,m3,a2⟩:=hi;have e:=zt m1 z;right;refine av e rfl ?_;right;refine av e rfl ?_;right;refine av e rfl ?_;right;refine av e rfl ?_;right;refine ih n rfl nofun ok.2.1 ⟨l1,vs1,rfl,m2,a1⟩ z (λH3 z3=>?_);right;refine av (zt m1 z3) rfl ?_;right;refine ih n rfl nofun ok.2.2 ⟨l2,vs2,rfl,m3,a2⟩ z3 (λH4 z4=>?_);right;refine av (zt m1 z4) rfl ?_;right;rename_i p H5 z5;refine ne_nil (zg m3 z5.drop) z5.at (vH (G:=pt cd (.dK (aD cs))::G) m3 z5) ?_;refine bQ ?_;right;refine⟨some (sK d),?_,z5.drop⟩;rw[<-step (N:=1+c5 (a7 cs) n c+c5 (a7 cs) n c2+(if c2.length=0 then 0 else 1)) rfl,<-a2.1];clear step
    by_cases h:vs2.length=0
    .rw[decide_eq_true h,if_pos h]
     rfl
    .rw[decide_eq_false h,if_neg h]
     rfl
 .rintro U H ⟨u,rfl,z⟩;right;rw[take_of_length_le (by rw[a.1];exact ol _)];exact q _ z
def ml (ro:Ro K R)(hns:∀ w ∈ ns,w ∈ cs.map (·.1)):∀ n,oz K R cd cs ns F n
 |0=>rY ro hns λm e=>absurd e nofun
 |n+1=>rY ro hns λm e=>by cases e;exact ml ro hns n
end
section
variable {F G:List ag}{v:V}{n:Nat}{ns:List Str}
abbrev rk (K:W.Frag)(R:Rt)(ns:List Str)(F:List ag)(n:Nat):Prop:=∀ {k:Nat}{G:List ag}{v:V}{b:List Itm}{H:Hp}{Q:VK}{E:XK},n+1<=k->jv ns n b->gC F n v b->Sep (G++F) H->(∀ c H',Sep (G++F) H'->Q (.bl c) H')->ae tab R k 35 [v] H Q E
def ma (ro:Ro K R)(ih:∀ m,n=m+1->rk K R ns F m):rk K R ns F n:=by
 intro k G v b H Q E hk ok hv z q;obtain⟨l,vs,rfl,m,a⟩:=hv;delta cG;right;refine lC (fz m z) ?_;have hl:vs.length<=30:=by rw[a.1];exact ok.1
 refine kJ (xs:=vs) nofun (λD ys H=>∃ bs:List Bool,ys=bs.map V.bl/\Sep (pt D (v4 ys)::(G++F)) H) (λD ys H ⟨bs,_,z⟩=>aA.of (fz m z.drop)) (λD hD=>⟨[],rfl,z.new (o:=v4 []) hD⟩) (λD ys x H hx hI=>?_) (λD ys H hl2 hI=>?_)
 .obtain⟨bs,e,z1⟩:=hI;obtain⟨i,hb,hi⟩:=a.get hx;have hyl:=(re.mp hx).1;have fin:∀ {c:Bool}{H:Hp},Sep (pt D (v4 ys)::(G++F)) H->kS (λD ys H=>∃ bs:List Bool,ys=bs.map V.bl/\Sep (pt D (v4 ys)::(G++F)) H) D ys [] (some x) (.bl c) H:=λ{c H} z=>kS.mk z.at nofun ⟨bs++[c],by rw[e,dL];rfl,z.set rfl⟩
  cases i with
  |row r=>
   obtain⟨d,rfl,m⟩:∃ t,x=sK t/\tu t r.tl ∈ F:=by cases n<;>exact hi
   obtain⟨s,rest,er,h1,h2,h3⟩:=kL r;rw[er]at m;right;refine av (jI m z1.drop) uP ?_;right;refine aq h2 ?_;exact fin z1
  |dO w=>
   obtain⟨d,rfl,m⟩:∃ t,x=sK t/\tu t [ul "do",ul w] ∈ F:=by cases n<;>exact hi
   right;refine av (jI m z1.drop) rfl ?_;right;exact fin z1
  |tms t c=>
   cases n with
   |zero=>exact hi.elim
   |succ n=>
    have hc:=(ok.2 _ (cr hb)).2;obtain⟨d,l1,vs1,rfl,m1,m2,a1⟩:=hi;right;refine av (jI m1 z1.drop) rfl ?_;right;refine av (jI m1 z1.drop) rfl ?_;right;refine dv (λg=>fin z1) (λg=>?_);right;refine av (jI m1 z1.drop) rfl ?_;right;exact ih n rfl (k:=k-1) (G:=pt D (v4 ys)::G) nofun hc ⟨l1,vs1,rfl,m2,a1⟩ z1 (λc H3 z3=>fin z3)
  |whn t c c2=>
   cases n with
   |zero=>exact hi.elim
   |succ n=>
    obtain⟨d,l1,vs1,l2,vs2,rfl,m1,_⟩:=hi;right;refine av (jI m1 z1.drop) rfl ?_;right;exact fin z1
 .obtain⟨bs,e,z1⟩:=hI;left;exact qa (K:=K) (bs:=bs) rfl (by rw[z1.at,e]) (q _ _ z1.drop)
def kM (ro:Ro K R):∀ n,rk K R ns F n
 |0=>ma ro λm e=>absurd e nofun
 |n+1=>ma ro λm e=>by cases e;exact kM ro n
end
def toF {L G:List ag}(z:Sep (L++(G++F)) H):Sep (G++(L++F)) H:=Sep.mv (P:=[]) z
def ay {A:ag}{L:List ag}:A ∈ F->A ∈ L++F:=ii L
section
variable {F G:List ag}{v:V}{n:Nat}{ns:List Str}{x dx p p':Addr}{vs vs':List V}
def jz (hk:1<=k)(z:Sep (pt x (wf (R.cad 10) dx [])::O) H)(q:∀ H',Sep (pt x (wf (R.cad 10) dx [("called",ul w)])::O) H'->Q ut H'):ae tab R k 15 [sK x,ul w] H Q E:=by
 delta cZ;right;exact q _ (by assumption)
def jK (hk:1<=k)(hp:pt p (v4 vs) ∈ F)(z:Sep (pt x (wf (R.cad 11) dx [])::(G++F)) H)(q:∀ l H',Sep (pt x (wf (R.cad 11) dx [("many",tz m),("block",sK l)])::pt l (v4 vs)::(G++F)) H'->Q ut H'):ae tab R k 16 [sK x,tz m,sK p] H Q E:=by
 delta bN;right;rename_i H1 z1;refine cT z1 (fz (G:=_::G) hp z1) (λl H2 z2=>?_);right;rename_i H3 z3;exact q l _ (z3.pull .k1)
def nM {o:Int}(hk:1<=k)(hp:pt p (v4 vs) ∈ F)(hp':pt p' (v4 vs') ∈ F)(z:Sep (pt x (wf (R.cad 12) dx [])::(G++F)) H)(q:∀ l l' H',Sep (pt x (wf (R.cad 12) dx [("on",tz o),("block",sK l),("other",sK l')])::pt l (v4 vs)::pt l' (v4 vs')::(G++F)) H'->Q ut H'):ae tab R k 17 [sK x,tz o,sK p,sK p'] H Q E:=by
 delta aZ;right;rename_i H1 z1;refine cT z1 (fz (G:=_::G) hp z1) (λl H2 z2=>?_);right;rename_i H3 z3;refine kB ?_;right;refine cT z3 (fz (G:=_::_::G) hp' z3) (λl' H4 z4=>?_);right;rename_i H5 z5;exact q l l' _ (z5.sub (.cons .k2 (.cons .k1 (.cons .e .refl))))
def nZ {o:Int}(hk:1<=k)(hp:pt p (v4 vs) ∈ F)(z:Sep (pt x (wf (R.cad 12) dx [])::(G++F)) H)(q:∀ l l' H',Sep (pt x (wf (R.cad 12) dx [("on",tz o),("block",sK l),("other",sK l')])::pt l (v4 vs)::pt l' (v4 [])::(G++F)) H'->Q ut H'):ae tab R k 17 [sK x,tz o,sK p,ut] H Q E:=by
 delta aZ;right;rename_i H1 z1;refine cT z1 (fz (G:=_::G) hp z1) (λl H2 z2=>?_);right;rename_i H3 z3;refine kB ?_;right;rename_i l' H4 z4 H5 z5;exact q l l' _ (z5.sub (.cons .k2 (.cons .k1 (.cons .e .refl))))
abbrev wb (K:W.Frag)(R:Rt)(ns:List Str)(n:Nat):Prop:=∀ {k:Nat}{F G:List ag}{v:V}{b:List Itm}{H:Hp}{Q:VK}{E:XK},2*n+8<=k->jv ns n b->gC F n v b->Sep (G++F) H->(∀ l Δ H',ow R (Δ++F) n (sK l) b->Sep (G++(Δ++F)) H'->Q (sK l) H')->ae tab R k 38 [v] H Q E
abbrev xX (K:W.Frag)(R:Rt)(ns:List Str)(n:Nat):Prop:=∀ {k:Nat}{F G:List ag}{v:V}{i:Itm}{H:Hp}{Q:VK}{E:XK},2*n+7<=k->kN ns n i->g8 F n v i->Sep (G++F) H->(∀ d Δ H',cP R (Δ++F) n (sK d) i->Sep (G++(Δ++F)) H'->Q (sK d) H')->ae tab R k 39 [v] H Q E
def fE (ro:Ro K R)(ih:∀ m,n=m+1->wb K R ns m):xX K R ns n:=by
 intro k F G v i H Q E hk ok hi z q;delta cJ;cases i with
 |row r=>
  obtain⟨t,rfl,m⟩:∃ t,v=sK t/\tu t r.tl ∈ F:=by cases n<;>exact hi
  have ok':r.ok:=by cases n<;>exact ok
  obtain⟨s,rest,er,h1,h2,h3⟩:=kL r;have e:=jI m z;rw[er]at e;right;refine av e uP ?_;right;refine aq h1 ?_;right;refine av e uP ?_;right;refine aq h2 ?_;right;refine av e uP ?_;right;refine aq h3 ?_;right;refine av e uP ?_;right;refine aq h3 ?_;right;refine rj r ro nofun ok' (Sep.yw (jI m z) z) (λd H' z'=>?_);refine q d [fD R d r] H' ?_ (toF (L:=[fD R d r]) ((z'.pull .k1).drop));cases n<;>exact⟨d,rfl,li⟩
 |dO w=>
  obtain⟨t,rfl,m⟩:∃ t,v=sK t/\tu t [ul "do",ul w] ∈ F:=by cases n<;>exact hi
  have e:=jI m z;right;refine av e rfl ?_;right;refine av e rfl ?_;right;intro x dx h1 h2 h3;refine jz nofun (cH z h1 h2 h3) (λH' z'=>?_);refine⟨rfl,q x [pt x (wf (R.cad 10) dx [("called",ul w)])] H' ?_ (toF (L:=[_]) ((z'.pull .k1).drop))⟩;cases n<;>exact⟨x,dx,rfl,li⟩
 |tms t c=>
  cases n with
  |zero=>exact hi.elim
  |succ n=>
   obtain⟨t',l1,vs1,rfl,m1,m2,a1⟩:=hi;have e:=jI m1 z;right;refine av e rfl ?_;right;refine av e rfl ?_;right;refine av e rfl ?_;right;refine av e rfl ?_;right;refine ih n rfl nofun ok.2 ⟨l1,vs1,rfl,m2,a1⟩ z (λp Δ H' hm z'=>?_);obtain⟨p,vs,e,hp,a⟩:=hm;cases e;right;intro x dx h1 h2 h3;refine jK (G:=pt dx (.own x)::G) nofun hp (cH z' h1 h2 h3) (λl H2 z2=>?_);refine⟨rfl,q x (pt x _::pt l (v4 vs)::Δ) H2 ⟨x,dx,l,vs,rfl,li,dl _ li,a.map λv i=>cP.mono λA h=>dl _ (dl _ h)⟩ (toF (L:=[_,_]) ((z2.pull .k2).drop))⟩
 |whn o c c2=>
  cases n with
  |zero=>exact hi.elim
  |succ n=>
   obtain⟨t',l1,vs1,l2,vs2,rfl,m1,⟨m2,a1⟩,m3,a2⟩:=hi;have e:=jI m1 z;right;refine av e rfl ?_;right;refine av e rfl ?_;right;refine av e rfl ?_;right;refine av e rfl ?_;right;rename_i pn H1 z1;refine eq_nil (fz m3 z1.drop) z1.at (vH m3 z1) ?_;have two:∀ {H:Hp},Sep (G++F) H->wB (bY 3 cJ.body) ⟨tab,R,ae tab R (k-1),true⟩ ⟨λ_ H'=>Q ut H',Q,λ_ _=>False,λ_ _=>False⟩ (λ_=>E) [some (sK t')] H:=by
    intro H z;have e:=jI m1 z;right;refine av e rfl ?_;right;refine av e rfl ?_;right;refine av e rfl ?_;right;refine ih n rfl nofun ok.2.1 ⟨l1,vs1,rfl,m2,a1⟩ z (λp Δ H' hm z'=>?_);obtain⟨p,vs,ep,hp,a⟩:=hm;cases ep;right;refine av (jI (ay m1) z') rfl ?_;right;refine ih n rfl nofun ok.2.2 ⟨l2,vs2,rfl,ay m3,a2.map λv i=>g8.mono λA=>ay⟩ z' (λp' Δ' H2 hm z2=>?_);obtain⟨p',vs',ep,hp',a'⟩:=hm;cases ep;right;intro x dx h1 h2 h3;refine nM (G:=pt dx (.own x)::G) nofun (ay hp) hp' (cH z2 h1 h2 h3) (λl l' H3 z3=>?_);have up:∀ A,A ∈ Δ'++(Δ++F)->A ∈ (pt x (wf (R.cad 12) dx [("on",tz o),("block",sK l),("other",sK l')])::pt l (v4 vs)::pt l' (v4 vs')::(Δ'++Δ))++F:=λA h=>by
     refine dl _ (dl _ (dl _ ?_));show A ∈ (Δ'++Δ)++F;rw[le];exact h
    refine⟨rfl,q x _ H3 ⟨x,dx,l,vs,l',vs',rfl,li,⟨dl _ li,a.map λv i=>cP.mono λA h=>up A (ay h)⟩,dl _ (dl _ li),a'.map λv i=>cP.mono up⟩ ?_⟩;have z4:=toF (L:=[_,_,_]) (F:=Δ'++(Δ++F)) ((z3.pull .k3).drop);rw[cons_append,cons_append,cons_append,le];exact z4
   by_cases h0:vs2.length=0
   .rw[decide_eq_true h0];right;refine av (jI m1 z1.drop) rfl ?_;right;refine dv (λg=>?_) (λg=>two z1.drop);right;refine av (jI m1 z1.drop) rfl ?_;right;refine av (jI m1 z1.drop) rfl ?_;right;refine ih n rfl nofun ok.2.1 ⟨l1,vs1,rfl,m2,a1⟩ z1.drop (λp Δ H' hm z'=>?_);obtain⟨p,vs,ep,hp,a⟩:=hm;cases ep;right;intro x dx h1 h2 h3;refine nZ (G:=pt dx (.own x)::G) nofun hp (cH z' h1 h2 h3) (λl l' H3 z3=>?_);have hc:c2=[]:=length_eq_zero_iff.mp (by rw[<-a2.1];exact h0);subst hc;refine⟨rfl,q x (pt x _::pt l (v4 vs)::pt l' (v4 [])::Δ) H3 ⟨x,dx,l,vs,l',[],rfl,li,⟨dl _ li,a.map λv i=>cP.mono λA h=>dl _ (dl _ (dl _ h))⟩,dl _ (dl _ li),.nil⟩ (toF (L:=[_,_,_]) ((z3.pull .k3).drop))⟩
   .rw[decide_eq_false h0];left;refine aq rfl ?_;exact aq rfl (two z1.drop)
abbrev B3 (K:W.Frag)(R:Rt)(ns:List Str)(n:Nat):Prop:=∀ {k:Nat}{F G:List ag}{v:V}{b:List Itm}{H:Hp}{Q:VK}{E:XK},2*n+8<=k->jv ns n b->gC F n v b->Sep (G++F) H->(∀ l vs Δ H',cL (cP R (Δ++F) n) vs b->Sep (pt l (v4 vs)::(G++(Δ++F))) H'->Q (sK l) H')->ae tab R k 38 [v] H Q E
def eA (ro:Ro K R)(hi:xX K R ns n):B3 K R ns n:=by
 intro k F G v b H Q E hk ok hv z q;obtain⟨l,vs,rfl,m,a⟩:=hv;delta dD;right;refine lC (fz m z) ?_;have hl:vs.length<=30:=by rw[a.1];exact ok.1
 refine kJ (xs:=vs) nofun (λD ys H=>∃ Δ,cL (cP R (Δ++F) n) ys (b.take ys.length)/\Sep (pt D (v4 ys)::(G++(Δ++F))) H) (λD ys H ⟨Δ,_,z⟩=>aA.of (fz (ay m) z.drop)) (λD hD=>⟨[],.nil,z.new (o:=v4 []) hD⟩) (λD ys x H hx hI=>?_) (λD ys H hl2 hI=>?_)
 .obtain⟨Δ,a1,z1⟩:=hI;obtain⟨i,hb,hi2⟩:=a.get hx;have hyl:=(re.mp hx).1;right;refine hi (k:=k-1) (F:=Δ++F) (G:=pt D (v4 ys)::G) nofun (ok.2 i (cr hb)) (g8.mono (λA=>ay) hi2) z1 (λd Δ' H' hm z'=>?_);refine kS.mk z'.at nofun ⟨Δ'++Δ,?_,by rw[le];exact z'.set rfl⟩;rw[ci,f8,take_succ,hb,le];exact(a1.map λv i=>cP.mono λA=>ay).snoc hm
 .obtain⟨Δ,a1,z1⟩:=hI;left;rw[hl2,a.1,take_of_length_le (ol _)]at a1;exact q D ys Δ H a1 z1
def ke (ro:Ro K R)(hi:xX K R ns n):wb K R ns n:=by
 intro k F G v b H Q E hk ok hv z q;exact eA ro hi hk ok hv z λD ys Δ H a1 z1=>q D (pt D (v4 ys)::Δ) H ⟨D,ys,rfl,li,a1.map λv i=>cP.mono λA h=>dl _ h⟩ (toF (L:=[_]) z1)
def mD (ro:Ro K R):∀ n,wb K R ns n
 |0=>ke ro (fE ro λm e=>absurd e nofun)
 |n+1=>ke ro (fE ro λm e=>by cases e;exact mD ro n)
def yh (ro:Ro K R):∀ n,B3 K R ns n
 |0=>eA ro (fE ro λm e=>absurd e nofun)
 |n+1=>eA ro (fE ro λm e=>by cases e;exact mD ro n)
end
abbrev nE:fV->fV
 | .cons (.for _ _ b) _=>b
 |_=>.nil
def Cw {a b c d e:V}(ha:P a)(hb:P b)(hc:P c)(hd:P d)(he:P e):∀ v ∈ [a,b,c,d,e],P v:=λv hv=>by
 simp only[lv,not_mem_nil,or_false]at hv;rcases hv with rfl|rfl|rfl|rfl|rfl<;>assumption
abbrev gT:fV->fV
 | .cons (.ife _ _ b) _=>b
 |_=>.nil
abbrev d7:Nat->Int
 |0=>1000
 |n+1=>100*d7 n
abbrev cst:Nat->Int
 |0=>15
 |n+1=>15+2*d7 n
def dX:∀ n,1000<=d7 n
 |0=>by show(1000:Int)<=1000;omega
 |n+1=>by have:=dX n;show 1000<=100*d7 n;omega
def fH (n:Nat):15<=cst n/\1+30*cst n<=d7 n:=by
 cases n with
 |zero=>exact⟨by show(15:Int)<=15;omega,by show(1:Int)+30*15<=1000;omega⟩
 |succ n=>have:=dX n;exact⟨by show 15<=15+2*d7 n;omega,by show 1+30*(15+2*d7 n)<=100*d7 n;omega⟩
def dg (c:Bool):0<=b2i c/\b2i c<=1:=by cases c<;>decide
section
variable {F G:List ag}{v:V}{n:Nat}{ns ns':List Str}{h T fd so:Addr}{m most:Int}{j:Nat}
noncomputable abbrev nN (h T fd so:Addr)(ns ns':List Str)(vs:List V)(N:Int)(O:List ag):List ag:=hand h N::pt T (v4 (ns.map ul))::pt fd (v4 vs)::pt so (v4 (ns'.map ul))::O
abbrev wq (h T fd so:Addr)(ns ns':List Str)(F G:List ag)(n:Nat)(m most:Int)(j:Nat)(U:St)(H:Hp):Prop:=∃ u6 u7 u8 u9 u10 u11 u12 u13,U=[some (sK h),some (sK T),some (tz (n+1)),some (tz most),some (sK fd),some (sK so),u6,u7,u8,u9,u10,u11,u12,u13]/\
 ∃ b vs Δ,b.length=j/\(∀ i ∈ b,kN ns n i)/\cL (g8 (Δ++F) n) vs b/\Sep (nN h T fd so ns ns' vs (m+1+(j:Int)*cst n) (G++(Δ++F))) H
abbrev ux (K:W.Frag)(R:Rt)(n:Nat):Prop:=∀ {k:Nat}{F G:List ag}{h T:Addr}{m most:Int}{ns:List Str}{H:Hp}{Q:VK}{E:XK},n+4<=k->(0<=most/\most<=29)->m+d7 n<=1099000000000->ns.length<=30->Sep (hand h m::pt T (v4 (ns.map ul))::(G++F)) H->(∀ l b Δ H',jv ns n b->b.length<=most->gC (Δ++F) n (sK l) b->Sep (hand h (m+d7 n)::pt T (v4 (ns.map ul))::(G++(Δ++F))) H'->Q (sK l) H')->ae tab R k 36 [sK h,sK T,tz (n+1),tz most] H Q E
def qe {E:St->XK}(ro:Ro K R)(ih:∀ p,n=p+1->ux K R p) (hk:n+4<=k) (hsub:∀ w ∈ ns',w ∈ ns) (hj:(j:Int)<most) (hmo:most<=29) (hm:m+d7 n<=1099000000000) (hns:ns.length<=30) (hns':ns'.length<=30) (hI:wq h T fd so ns ns' F G n m most j U H) (q:∀ σ' H',wq h T fd so ns ns' F G n m most (j+1) σ' H'->D.nx σ' H'):
  wB (nE (bY 2 aC.body)) ⟨tab,R,ae tab R (k-1),true⟩ D E U H:=by
 obtain⟨u6,u7,u8,u9,u10,u11,u12,u13,rfl,b,vs,Δ,hb,ok,a,z⟩:=hI;have hjc:(j:Int)*cst n<=29*cst n:=Int.mul_le_mul_of_nonneg_right nofun (by have:=(fH n).1;omega);have hj0:0<=(j:Int)*cst n:=Int.mul_nonneg nofun (by have:=(fH n).1;omega);have hC:=fH n;have hbp:=dX n;have hl30:vs.length<=29:=by rw[a.1,hb];omega
 have fin:∀ {v:V}{i:Itm}{Δ':List ag}{N:Int}{H':Hp}{s8 s9 s10 s11 s12 s13:Option V}{s6 s7:Option V},kN ns n i->g8 (Δ'++F) n v i->(∀ A ∈ Δ++F,A ∈ Δ'++F)->N<=m+1+(j:Int)*cst n+cst n->Sep (nN h T fd so ns ns' (vs++[v]) N (G++(Δ'++F))) H'->D.nx [some (sK h),some (sK T),some (tz (n+1)),some (tz most),some (sK fd),some (sK so),s6,s7,s8,s9,s10,s11,s12,s13] H':=by
  intro v i Δ' N H' s8 s9 s10 s11 s12 s13 s6 s7 oi si up hN z;refine q _ _ ⟨_,_,_,_,_,_,_,_,rfl,b++[i],vs++[v],Δ',by rw[ci,hb];rfl,λx hx=>?_,(a.map λv i=>g8.mono up).snoc si,?_⟩
  .rcases mem_append.mp hx with hx|hx
   .exact ok x hx
   .rw[mem_singleton.mp hx];exact oi
  .exact aB z (by rw[Int.natCast_add,Int.add_mul];omega)
 have rest:∀ {H:Hp}{way:Int},0<=way->Sep (nN h T fd so ns ns' vs (m+1+(j:Int)*cst n+1) (G++(Δ++F))) H->wB (gT (bY 1 (nE (bY 2 aC.body)))) ⟨tab,R,ae tab R (k-1),true⟩ D E [some (sK h),some (sK T),some (tz (n+1)),some (tz most),some (sK fd),some (sK so),u6,some (tz way),u8,u9,u10,u11,u12,u13] H:=by
  intro H way hw z;have row:∀ {H:Hp},Sep (nN h T fd so ns ns' vs (m+1+(j:Int)*cst n+1) (G++(Δ++F))) H->wB (gT (gT (gT (bY 1 (nE (bY 2 aC.body)))))) ⟨tab,R,ae tab R (k-1),true⟩ D E [some (sK h),some (sK T),some (tz (n+1)),some (tz most),some (sK fd),some (sK so),u6,some (tz way),u8,u9,u10,u11,u12,u13] H:=by
   intro H z;left;refine⟨fd,vs,rfl,z.get .k2,?_⟩;right;refine tO nofun z nofun nofun nofun (λt r H2 okr z2=>?_);left;refine⟨vs,z2.get .k3,gF z2 .k3 nofun (λH3 z3=>?_)⟩;left;have z4:Sep (nN h T fd so ns ns' (vs++[sK t]) (m+1+(j:Int)*cst n+1+10) (G++(([tu t r.tl]++Δ)++F))) H3:=by
    have z5:=Sep.mv (P:=[hand h _,pt T _,pt fd _,pt so _]) (Δ:=[tu t r.tl]) (L:=G) (O:=Δ++F) (H:=H3) (z3.sub (.cons .k1 (.cons .k1 (.cons .k1 (.cons .k1 .refl)))));rw[le];exact z5
   exact fin (i:=.row r) (by cases n<;>exact okr) (by cases n<;>exact⟨t,rfl,li⟩) (λA h=>dl _ h) nofun z4
  cases n with
  |zero=>
   right;refine dv (λg=>?_) (λg=>?_)
   .left;refine aq (decide_eq_false nofun) ?_;left;refine b6 (λg=>?_) (λg=>aq rfl (row z));left;exact aq (decide_eq_false nofun) (row z)
   .refine aq rfl ?_;left;refine b6 (λg=>?_) (λg=>aq rfl (row z));left;exact aq (decide_eq_false nofun) (row z)
  |succ n=>
   have hcs:cst (n+1)=15+2*d7 n:=rfl;have hbs:d7 (n+1)=100*d7 n:=rfl;have hbp:=dX n;have hdp:((n+1:Nat):Int)+1-1=(n:Int)+1:=by omega
   have when:∀ {H:Hp},Sep (nN h T fd so ns ns' vs (m+1+(j:Int)*cst (n+1)+1) (G++(Δ++F))) H->wB (gT (gT (bY 1 (nE (bY 2 aC.body))))) ⟨tab,R,ae tab R (k-1),true⟩ D E [some (sK h),some (sK T),some (tz ((n+1:Nat)+1)),some (tz most),some (sK fd),some (sK so),u6,some (tz way),u8,u9,u10,u11,u12,u13] H:=by
    intro H z;right;refine b6 (λg=>?_) (λg=>aq rfl (row z));left;refine cg (decide_eq_true nofun) ?_;walk_at "gd";rename_i r1 H1 r10 r11 z1 r2 H2 r20 r21 z2;rw[hdp];have z3:Sep (hand h (m+1+(j:Int)*cst (n+1)+1+1+1)::pt so (v4 (ns'.map ul))::(([pt T (v4 (ns.map ul)),pt fd (v4 vs)]++G)++(Δ++F))) H2:=z2.sub (.cons .e (.cons .k2 .refl));refine ih n rfl (k:=k-1) nofun ⟨by omega,by omega⟩ nofun hns' z3 (λl b1 Δ1 H4 ok1 hl1 s1 z4=>?_);have z4':Sep (hand h _::pt so (v4 (ns'.map ul))::(([pt T (v4 (ns.map ul)),pt fd (v4 vs)]++G)++(Δ1++(Δ++F)))) H4:=z4;have z5:Sep (nN h T fd so ns ns' vs (m+1+(j:Int)*cst (n+1)+1+1+1+d7 n) (G++(Δ1++(Δ++F)))) H4:=z4'.sub (.cons .e (.cons .k1 (.cons .k1 (.cons .e .refl))));left;refine⟨fd,vs,rfl,z5.get .k2,?_⟩;right;rw[hdp];have z6:Sep (hand h (m+1+(j:Int)*cst (n+1)+1+1+1+d7 n)::pt so (v4 (ns'.map ul))::(([pt T (v4 (ns.map ul)),pt fd (v4 vs)]++G)++(Δ1++(Δ++F)))) H4:=z4;refine ih n rfl (k:=k-1) nofun ⟨by omega,by omega⟩ nofun hns' z6 (λl' b2 Δ2 H5 ok2 hl2 s2 z7=>?_);have z7':Sep (hand h _::pt so (v4 (ns'.map ul))::(([pt T (v4 (ns.map ul)),pt fd (v4 vs)]++G)++(Δ2++(Δ1++(Δ++F))))) H5:=z7;have z8:Sep (nN h T fd so ns ns' vs (m+1+(j:Int)*cst (n+1)+1+1+1+d7 n+d7 n) (G++(Δ2++(Δ1++(Δ++F))))) H5:=z7'.sub (.cons .e (.cons .k1 (.cons .k1 (.cons .e .refl))));left;refine ij z8 (by walk_at "ar") (λt H6 z9=>?_);left;refine⟨vs,z9.get .k3,gF z9 .k3 nofun (λH7 z10=>?_)⟩;left;have z11:Sep (nN h T fd so ns ns' (vs++[sK t]) (m+1+(j:Int)*cst (n+1)+1+1+1+d7 n+d7 n) (G++((tu t [ul "when",tz r1,sK l,sK l']::(Δ2++(Δ1++Δ)))++F))) H7:=by
     have z12:=Sep.mv (P:=[hand h _,pt T _,pt fd _,pt so _]) (Δ:=[tu t _]) (L:=G) (O:=Δ2++(Δ1++(Δ++F))) (H:=H7) (z10.toT.sub (.cons .k1 (.cons .k1 (.cons .k1 (.cons .k1 .refl)))));rw[cons_append,le,le];exact z12
    have up2:∀ A,A ∈ Δ2++(Δ1++(Δ++F))->A ∈ (tu t [ul "when",tz r1,sK l,sK l']::(Δ2++(Δ1++Δ)))++F:=λA h=>by
     rw[cons_append,le,le];exact dl _ h
    obtain⟨l0,vs1,e0,hp1,a1⟩:=s1;cases e0;obtain⟨l0,vs2,e0,hp2,a2⟩:=s2;cases e0;exact fin (i:=.whn r1 b1 b2) ⟨by omega,⟨ok1.1,λi hi=>kN.mono hsub (ok1.2 i hi)⟩,ok2.1,λi hi=>kN.mono hsub (ok2.2 i hi)⟩ ⟨t,l,vs1,l',vs2,rfl,li,⟨up2 _ (ay hp1),a1.map λv i=>g8.mono λA h=>up2 A (ay h)⟩,up2 _ hp2,a2.map λv i=>g8.mono up2⟩ (λA h=>up2 A (ay (ay h))) nofun z11
   right;refine dv (λg=>?_) (λg=>aq rfl (when z));left;refine cg (decide_eq_true nofun) ?_;walk_at "gd";rename_i r1 H1 r10 r11 z1 r2 H2 r20 r21 z2 lp H3 z3;obtain⟨v,e1,i,rfl,i0,i1⟩:=jL (xs:=[tz 0,tz 1,tz 2,tz 3,tz (4+r2)]) (P:=inR 0 9) (r:=r1) r10 (by simpa using r11) (Cw (.mk nofun nofun) (.mk nofun nofun) (.mk nofun nofun) (.mk nofun nofun) (.mk nofun nofun));refine bP (by grind) e1 ?_;right;rw[hdp];have z4:Sep (hand h (m+1+(j:Int)*cst (n+1)+1+1+1)::pt so (v4 (ns'.map ul))::(([pt T (v4 (ns.map ul)),pt fd (v4 vs)]++G)++(Δ++F))) H3:=z3.drop.sub (.cons .e (.cons .k2 .refl));refine ih n rfl (k:=k-1) nofun ⟨by omega,by omega⟩ nofun hns' z4 (λl b1 Δ1 H4 ok1 hl1 s1 z5=>?_);have z5':Sep (hand h _::pt so (v4 (ns'.map ul))::(([pt T (v4 (ns.map ul)),pt fd (v4 vs)]++G)++(Δ1++(Δ++F)))) H4:=z5;have z6:Sep (nN h T fd so ns ns' vs (m+1+(j:Int)*cst (n+1)+1+1+1+d7 n) (G++(Δ1++(Δ++F)))) H4:=z5'.sub (.cons .e (.cons .k1 (.cons .k1 (.cons .e .refl))));left;refine⟨fd,vs,rfl,z6.get .k2,?_⟩;right;refine kM ro n (k:=k-1) (F:=Δ1++(Δ++F)) (G:=[hand h _,pt T (v4 (ns.map ul)),pt fd (v4 vs),pt so (v4 (ns'.map ul))]++G) nofun ok1 s1 z6 (λc H5 z7=>?_);have z7:Sep (nN h T fd so ns ns' vs (m+1+(j:Int)*cst (n+1)+1+1+1+d7 n) (G++(Δ1++(Δ++F)))) H5:=z7;refine bQ ?_;have hc:=dg c;generalize b2i c=bc at hc;left;refine⟨.inl ⟨by omega,by omega⟩,?_⟩;left;refine qQ rfl ?_;left;refine ij z7 (by walk_at "ar") (λt H6 z9=>?_);left;refine⟨vs,z9.get .k3,gF z9 .k3 nofun (λH7 z10=>?_)⟩;left;generalize hM:min i (9-8*bc)=M at z9 z10;have hM':0<=M/\M<=9:=by omega
   have z11:Sep (nN h T fd so ns ns' (vs++[sK t]) (m+1+(j:Int)*cst (n+1)+1+1+1+d7 n) (G++((tu t [ul "times",tz M,sK l]::(Δ1++Δ))++F))) H7:=by
    have z12:=Sep.mv (P:=[hand h _,pt T _,pt fd _,pt so _]) (Δ:=[tu t _]) (L:=G) (O:=Δ1++(Δ++F)) (H:=H7) (z10.toT.sub (.cons .k1 (.cons .k1 (.cons .k1 (.cons .k1 .refl)))));rw[cons_append,le];exact z12
   have up2:∀ A,A ∈ Δ1++(Δ++F)->A ∈ (tu t [ul "times",tz M,sK l]::(Δ1++Δ))++F:=λA h=>by
    rw[cons_append,le];exact dl _ h
   obtain⟨l0,vs1,e0,hp1,a1⟩:=s1;cases e0;exact fin (i:=.tms M b1) ⟨hM',ok1.1,λi hi=>kN.mono hsub (ok1.2 i hi)⟩ ⟨t,l,vs1,rfl,li,up2 _ hp1,a1.map λv i=>g8.mono up2⟩ (λA h=>up2 A (ay h)) nofun z11
 walk_at "gd";rename_i way H1 w0 w1 z1;refine dv (λg=>?_) (λg=>?_)
 .right;rename_i p H2 z2;refine ne_nil (z2.get .k2) z2.at ((z2.pull .k2).ne) ?_;rw[ce];left
  by_cases h0:ns.length=0
  .rw[decide_eq_true h0];exact aq rfl (rest w0 z2.drop)
  .rw[decide_eq_false h0];refine cg rfl ?_;have z2:=z2.drop;have hlen:0<((ns.map ul).length:Int):=by rw[ce];omega
   have hlen2:((ns.map ul).length:Int)<=30:=by rw[ce];omega
   left;refine⟨fd,vs,rfl,z2.get .k2,?_⟩;walk_at "gd";rename_i r H3 r0 r1 z3;obtain⟨v,e1,hv⟩:=cC r0 r1;obtain⟨w,hw,rfl⟩:=List.mem_map.mp hv;refine bP (z3.get .k1) e1 ?_;left;refine ij z3 (by walk_at "ar") (λt H6 z9=>?_);left;refine⟨vs,z9.get .k3,gF z9 .k3 nofun (λH7 z10=>?_)⟩;left;have z11:Sep (nN h T fd so ns ns' (vs++[sK t]) (m+1+(j:Int)*cst n+1+1) (G++(([tu t [ul "do",ul w]]++Δ)++F))) H7:=by
    have z12:=Sep.mv (P:=[hand h _,pt T _,pt fd _,pt so _]) (Δ:=[tu t _]) (L:=G) (O:=Δ++F) (H:=H7) (z10.toT.sub (.cons .k1 (.cons .k1 (.cons .k1 (.cons .k1 .refl)))));rw[le];exact z12
   exact fin (i:=.dO w) (by cases n<;>exact hw) (by cases n<;>exact⟨t,rfl,li⟩) (λA h=>dl _ h) nofun z11
 .exact aq rfl (rest w0 z1)
def mG (ro:Ro K R)(ih:∀ p,n=p+1->ux K R p):ux K R n:=by
 intro k F G h T m most ns H Q E hk hmo hm hns z q;have hC:=fH n;have hbp:=dX n;delta aC;right;rename_i fd H1 z1;refine bQ ?_;left;obtain⟨ns',e',hsub,hl'⟩:∃ ns':List Str,(pi (b2i (decide (3<(n:Int)+1))).toNat (ns.map ul)).flatten=ns'.map ul/\(∀ w ∈ ns',w ∈ ns)/\ns'.length<=30:=by
  by_cases g:3<(n:Int)+1
  .exact⟨ns,by rw[decide_eq_true g];show(pi 1 _).flatten=_;simp,λw h=>h,hns⟩
  .exact⟨[],by rw[decide_eq_false g];rfl,λw h=>(by cases h),by decide⟩
 refine pN (i:=b2i (decide (3<(n:Int)+1))) z1 (z1.get .k2) (by have:=dg (decide (3<(n:Int)+1));omega) (by have:=dg (decide (3<(n:Int)+1));omega) (by rw[ce];omega) (λso H2 z2=>?_);rw[e']at z2;walk_at "gd";rename_i r H3 r0 r1 z3;refine fw (λj U H=>wq h T fd so ns ns' F G n m most j U H) ⟨_,_,_,_,_,_,_,_,rfl,[],[],[],rfl,λi hi=>(nomatch hi),.nil,?_⟩ (λj U H hj hI=>?_) (λU H hI=>?_)
 .exact aB (z3.sub (.cons .e (.cons .k2 (.cons .k1 (.cons .e .refl))))) (by simp)
 .left;refine qe (k:=k) (j:=j) ro ih hk hsub nofun hmo.2 hm hns hl' ?_ (λσ' H' h=>h);obtain⟨u6,u7,u8,u9,u10,u11,u12,u13,rfl,hr⟩:=hI;exact⟨_,_,_,_,_,_,_,_,rfl,hr⟩
 .obtain⟨u6,u7,u8,u9,u10,u11,u12,u13,rfl,b,vs,Δ,hb,ok,a,z4⟩:=hI;right;have hjc:(r.toNat:Int)*cst n<=29*cst n:=Int.mul_le_mul_of_nonneg_right nofun nofun;have z5:Sep (hand h (m+d7 n)::pt T (v4 (ns.map ul))::(G++([pt fd (v4 vs)]++(Δ++F)))) H:=Sep.mv (P:=[hand h _,pt T _]) (Δ:=[pt fd (v4 vs)]) (L:=G) (O:=Δ++F) (aB ((z4.pull .k3).drop) nofun);refine q fd b (pt fd (v4 vs)::Δ) H ⟨by rw[hb];omega,ok⟩ (by rw[hb];omega) ⟨fd,vs,rfl,li,a.map λv i=>g8.mono λA h=>dl _ h⟩ z5
def kY (ro:Ro K R):∀ n,ux K R n
 |0=>mG ro λm e=>absurd e nofun
 |n+1=>mG ro λm e=>by cases e;exact kY ro n
end
@[irreducible] noncomputable def vo (I:Nat->Addr->List V->Hp->Prop) (j:Nat) (D:Addr):VK:=λv H4=>∃ zs,H4 D=some (v4 zs)/\zs.length<PySem.sizeLine/\∃ ys2,I (j+1) D ys2 (upd H4 D (v4 (zs++[v])))
def vo.mk {j:Nat}{D:Addr}(h1:H3 D=some (v4 ys))(hl:ys.length<=999)(h2:I (j+1) D (ys++[v]) (upd H3 D (v4 (ys++[v])))):vo I j D v H3:=by
 unfold vo;exact⟨ys,h1,bK nofun,ys++[v],h2⟩
@[irreducible] noncomputable def qy (I:Nat->Addr->List V->Hp->Prop) (te:TE) (j:Nat) (D:Addr) (rest:St) (x:V):Bool->Hp->Prop:=λb H3=>(b=true->te (some x::rest) H3 λv H4=>vo I j D v H4)/\(b=false->∃ ys2,I (j+1) D ys2 H3)
def qy.t {j:Nat}{D:Addr}{x:V}{c:Bool}(e:c=true)(h:te (some x::rest) H3 λv H4=>vo I j D v H4):qy I te j D rest x c H3:=by
 unfold qy;exact⟨λ_=>h,λz=>(by rw[e]at z;cases z)⟩
def qy.f {j:Nat}{D:Addr}{x:V}{c:Bool}(e:c=false)(h:I (j+1) D ys H3):qy I te j D rest x c H3:=by
 unfold qy;exact⟨λz=>(by rw[e]at z;cases z),λ_=>⟨ys,h⟩⟩
def sQ {tc:TT}{z:Str}(I:Nat->Addr->List V->Hp->Prop)(h0:∀ D,H D=none->I 0 D [] (upd H D (v4 [])))
  (hs:∀ j D ys c H',z.cps[j]? =some c->I j D ys H'->tc (some (ul ⟨#[c]⟩)::rest) H' (qy I te j D rest (ul ⟨#[c]⟩)))
  (hd:∀ D ys H',I z.cps.size D ys H'->Q (sK D) H'):wY tc te (vh z) (none::rest) H Q:=by
 unfold wY;intro D hD;refine⟨λi m σ' H'=>m=z.cps.size-i/\i<=z.cps.size/\∃ ys x0,σ'=x0::rest/\I i D ys H',⟨z.cps.size,by simp,Nat.zero_le _,[],none,rfl,h0 D hD⟩,λi m σ' H' ⟨e,hi,ys,x0,e1,h⟩=>?_⟩;subst e1
 by_cases hlt:i<z.cps.size
 .refine .inr ⟨hlt,λσ2 H2=>∃ ys2 x2,σ2=x2::rest/\I (i+1) D ys2 H2,λσ2 H2 ⟨ys2,x2,f1,f3⟩=>⟨z.cps.size-(i+1),by omega,rfl,hlt,ys2,x2,f1,f3⟩,λx H'' y=>?_⟩;obtain⟨e1,c,hc,rfl⟩:=y;subst e1;have w:=hs i D ys c H'' hc h;have e:qy I te i D rest (ul ⟨#[c]⟩)=λb H3=>(b=true->te (some (ul ⟨#[c]⟩)::rest) H3 λv H4=>∃ zs,H4 D=some (v4 zs)/\zs.length<PySem.sizeLine/\∃ ys2 x2,some (ul ⟨#[c]⟩)::rest=x2::rest/\I (i+1) D ys2 (upd H4 D (v4 (zs++[v]))))/\(b=false->∃ ys2 x2,some (ul ⟨#[c]⟩)::rest=x2::rest/\I (i+1) D ys2 H3):=by
   funext b H3
   unfold qy;have e2:(λv H4=>vo I i D v H4)=λv H4=>∃ zs,H4 D=some (v4 zs)/\zs.length<PySem.sizeLine/\∃ ys2 x2,some (ul ⟨#[c]⟩)::rest=x2::rest/\I (i+1) D ys2 (upd H4 D (v4 (zs++[v]))):=by
    funext v H4
    unfold vo;exact propext ⟨λ⟨zs,a,b,ys2,c⟩=>⟨zs,a,b,ys2,_,rfl,c⟩,λ⟨zs,a,b,ys2,_,_,c⟩=>⟨zs,a,b,ys2,c⟩⟩
   rw[e2];exact propext ⟨λ⟨p,q⟩=>⟨p,λz=>let⟨y,w⟩:=q z;⟨y,_,rfl,w⟩⟩,λ⟨p,q⟩=>⟨p,λz=>let⟨y,_,_,w⟩:=q z;⟨y,w⟩⟩⟩
  rw[e]at w;exact w
 .have:i=z.cps.size:=by omega
  subst this;exact .inl ⟨ol _,hd D ys H' h⟩
def yR {x:V}(e:aA K H a xs)(fx:au x=true)(fs:xs.all au=true)(q:Q (.bl (!rC x xs)) H):j5 K true x (sK a) H Q:=by unfold j5;exact .inl ⟨xs,.inl e,fx,fs,q⟩
abbrev gH (j:Nat):Str:=⟨#[113,97+j]⟩
def xq {j:Nat}(h:j<8):Nm (gH j):=by
 refine⟨⟨by show 1<=2;omega,by show 2<=8;omega⟩,λc hc=>?_⟩;have hc':c=113\/c=97+j:=by simpa[gH] using hc
 rcases hc' with rfl|rfl<;>omega
def t5 {i j:Nat}(h:gH i=gH j):i=j:=by
 have:=congrArg (λs:Str=>s.cps[1]?) h;simp[gH]at this;exact this
def jf:∀ {l m:List Str},l.Nodup->(∀ x ∈ l,x ∈ m)->l.length<=m.length
 | [],_,_,_=>Nat.zero_le _
 |a::l,m,nd,h=>by
  have ha:=h a li;have nd':=nodup_cons.mp nd;have:=jf (m:=m.erase a) nd'.2 (λx hx=>by
   have hne:x≠a:=λe=>nd'.1 (by rw[<-e];exact hx)
   exact(List.mem_erase_of_ne hne).mpr (h x (dl _ hx)))
  rw[List.length_erase_of_mem ha]at this;have:0<m.length:=List.length_pos_of_mem ha;rw[length_cons]
  omega
def uA (h:ns.length<=7):∃ j,j<8/\gH j ∉ ns:=by
 by_cases hh:∃ j,j<8/\gH j ∉ ns
 .exact hh
 .exfalso
  have all:∀ j,j<8->gH j ∈ ns:=λj hj=>Classical.byContradiction λz=>hh ⟨j,hj,z⟩
  have nd:((List.range 8).map gH).Nodup:=by
   exact List.Pairwise.map gH (λa b hne e=>hne (t5 e)) (List.nodup_range (n:=8))
  have:=jf (m:=ns) nd λx hx=>by
   obtain⟨j,hj,rfl⟩:=List.mem_map.mp hx;exact all j (mem_range.mp hj)
  rw[ce,length_range]at this
  omega
def hV {w:Str}:∀ {ns:List Str},rC (ul w) (ns.map ul)=decide (w ∈ ns)
 | []=>by unfold rC;rfl
 |x::ns=>by
  have ih:=hV (w:=w) (ns:=ns);unfold rC at ih⊢;rw[map_cons,any_cons,ih]
  by_cases e:w=x
  .subst e;simp[fm]
  .have e':¬ x=w:=λz=>e z.symm
   simp[fm,e,e']
def gQ:(ns.map ul).all au=true:=by
 rw[all_eq_true];intro x hx;obtain⟨w,_,rfl⟩:=List.mem_map.mp hx;rfl
abbrev BP (w:Str):Bool:=decide (1<=w.length)&&decide (w.length<=8)&&w.cps.toList.all λc=>decide (97<=c)&&decide (c<=122)
def zP (h:BP w=true):Nm w:=by
 unfold BP at h;simp only[lw,decide_eq_true_eq,all_eq_true]at h;exact⟨h.1,h.2⟩
def vX (h0:0<=r)(h1:r<26):∃ c,eP ("abcdefghijklmnopqrstuvwxyz":Str).cps.toList r=some c/\97<=c/\c<=122:=by
 have hl:("abcdefghijklmnopqrstuvwxyz":Str).cps.toList.length=26:=by decide+kernel
 obtain⟨c,e,m⟩:=cC (xs:=("abcdefghijklmnopqrstuvwxyz":Str).cps.toList) h0 (by rw[hl];exact h1);have ha:(("abcdefghijklmnopqrstuvwxyz":Str).cps.toList.all λc=>decide (97<=c)&&decide (c<=122))=true:=by decide+kernel
 have:=all_eq_true.mp ha c m;simp only[lw,decide_eq_true_eq]at this;exact⟨c,e,this⟩
def yH (h0:0<=r)(h1:r<8):∃ w,eP [ul "do",ul "else",ul "when",ul "times",ul "set",ul "rows",ul "and",ul "a"] r=some (ul w)/\Nm w:=by
 rcases(by omega:r=0\/r=1\/r=2\/r=3\/r=4\/r=5\/r=6\/r=7) with rfl|rfl|rfl|rfl|rfl|rfl|rfl|rfl<;>exact⟨_,rfl,zP (by decide+kernel)⟩
def kU (cs:List Nat):Txt.join ("":Str) (cs.map λc=>⟨#[c]⟩)=⟨cs.toArray⟩:=by
 have h:=PyProof.Rows.join_nil_signs ⟨cs.toArray⟩;have e:PyProof.Rows.signs ⟨cs.toArray⟩=cs.map λc=>⟨#[c]⟩:=by unfold PyProof.Rows.signs;simp
 rw[e]at h;unfold Txt.join;have e0:("":Str)=⟨#[]⟩:=by decide+kernel
 rw[e0];rw[StrLaws.glued_eq_join];exact h
def vp {j:Nat}(e:("abcdefgh":Str).cps[j]? =some c):("q":Str)++⟨#[c]⟩=gH j:=by
 have hj:j<8:=(Array.getElem?_eq_some_iff.mp e).1;have ha:((List.range 8).all λj=>match ("abcdefgh":Str).cps[j]? with|some c=>decide (("q":Str)++⟨#[c]⟩=gH j)|none=>false)=true:=by decide+kernel
 have:=all_eq_true.mp ha j (mem_range.mpr hj);rw[e]at this;exact of_decide_eq_true this
section
variable {h T:Addr}{m:Int}{ns:List Str}
def eK {u2 u4 u5:Option V}{E:St->XK}(hns:ns.length<=7)(hw:Nm w)(z:Sep (hand h m::pt T (v4 (ns.map ul))::O) H)(q:∀ w H',Nm w->w ∉ ns->Sep (hand h m::pt T (v4 (ns.map ul))::O) H'->D.rt (ul w) H'):
  wB (bY 3 bA.body) ⟨tab,R,ae tab R (k-1),true⟩ D E [some (sK h),some (sK T),u2,some (ul w),u4,u5] H:=by
 right;refine sQ (z:="abcdefgh") (λj D ys H=>ys=((List.range j).filter (λi=>decide (gH i ∉ ns))).map (λi=>ul (gH i))/\Sep (pt D (v4 ys)::hand h m::pt T (v4 (ns.map ul))::O) H) (λD hD=>⟨rfl,z.new (o:=v4 []) hD⟩) (λj D ys c H hc hI=>?_) (λD ys H hI=>?_)
 .obtain⟨e,z1⟩:=hI;have hj:j<8:=(Array.getElem?_eq_some_iff.mp hc).1;have hyl:ys.length<=8:=by
   rw[e,ce];exact Nat.le_trans (List.length_filter_le _ _) (by rw[length_range];omega)
  left;refine⟨by show 1+1<=100000;omega,?_⟩;rw[vp hc];left;refine yR (aA.of (z1.get .k2)) rfl gQ ?_;rw[hV];left
  by_cases g:gH j ∈ ns
  .refine qy.f (ys:=ys) (by rw[decide_eq_true g];rfl) ⟨?_,z1⟩;rw[List.range_succ,List.filter_append,dL,<-e,List.filter_cons_of_neg (by simpa using g),List.filter_nil,List.map_nil,append_nil]
  .refine qy.t (by rw[decide_eq_false g];rfl) ?_;left;refine⟨by show 1+1<=100000;omega,?_⟩;rw[vp hc];refine vo.mk z1.at nofun ⟨?_,z1.set rfl⟩;rw[List.range_succ,List.filter_append,dL,<-e,List.filter_cons_of_pos (by simpa using g),List.filter_nil]
   rfl
 .obtain⟨e,z1⟩:=hI;obtain⟨j,hj,hn⟩:=uA hns;have hm:j ∈ (List.range 8).filter (λi=>decide (gH i ∉ ns)):=mem_filter.mpr ⟨mem_range.mpr hj,decide_eq_true hn⟩;have e8:("abcdefgh":Str).cps.size=8:=by decide+kernel
  rw[e8]at e;obtain⟨i,rest,el⟩:∃ i rest,(List.range 8).filter (λi=>decide (gH i ∉ ns))=i::rest:=by
   cases hh:(List.range 8).filter (λi=>decide (gH i ∉ ns)) with
   |nil=>rw[hh]at hm;cases hm
   |cons i r=>exact⟨i,r,rfl⟩
  have hi:i ∈ (List.range 8).filter (λi=>decide (gH i ∉ ns)):=by rw[el];exact li
  obtain⟨hi8,hin⟩:=mem_filter.mp hi;have hi8:=mem_range.mp hi8;have hin:=of_decide_eq_true hin;rw[el,map_cons]at e;subst e;right;refine bP z1.at uP ?_;right;rename_i p H2 z2;refine AI (aA.of (z2.get .k3)) rfl gQ ?_;rw[hV];refine bQ ?_
  by_cases g:w ∈ ns
  .rw[decide_eq_true g];refine bP z2.at (v:=ul (gH i)) rfl ?_;exact q _ _ (xq hi8) hin z2.drop.drop
  .rw[decide_eq_false g];refine bP z2.at (v:=ul w) rfl ?_;exact q _ _ hw g z2.drop.drop
def g6 (ro:Ro K R)(hk:2<=k)(hns:ns.length<=7)(hm:m<=1099000000000)(z:Sep (hand h m::pt T (v4 (ns.map ul))::O) H)(q:∀ w H',Nm w->w ∉ ns->Sep (hand h (m+12)::pt T (v4 (ns.map ul))::O) H'->Q (ul w) H'):ae tab R k 34 [sK h,sK T] H Q E:=by
 delta bA;walk_at "gd";rename_i way H1 w0 w1 z1 p H2 z2 r H3 r0 r1 z3;obtain⟨w,e,hw⟩:=yH r0 r1;refine bP (z3.get .k1) e ?_;right;have z3:Sep (hand h (m+1+1)::pt T (v4 (ns.map ul))::O) H3:=z3.sub (by ac_nf);refine b6 (λg=>?_) (λg=>?_)
 .clear z z1 z2;walk_at "gd";rename_i s H4 s0 s1 z4;refine⟨_,rfl,?_⟩;right;refine xu (n:=(1+s).toNat) nofun (λD ys H=>∃ cs:List Nat,ys=cs.map (λc=>ul ⟨#[c]⟩)/\(∀ c ∈ cs,97<=c/\c<=122)/\Sep (pt D (v4 ys)::hand h (m+3+ys.length)::pt T (v4 (ns.map ul))::O) H) (λD hD=>⟨[],rfl,λc hc=>(by cases hc),(aB z4 (by simp;omega)).new (o:=v4 []) hD⟩) (λD ys H hl hI=>?_) (λD ys H hl hI=>?_)
  .obtain⟨cs,e1,hc,z5⟩:=hI;have z5':Sep (hand h (m+3+ys.length)::pt D (v4 ys)::pt T (v4 (ns.map ul))::O) H:=z5.pull .k1;clear z3 z4 z5;walk_at "gd";rename_i r2 H5 r20 r21 z6;obtain⟨c,e2,c0,c1⟩:=vX r20 r21;refine zW (by decide+kernel) e2 ?_;have z7:Sep (pt D (v4 ys)::hand h (m+3+ys.length+1)::pt T (v4 (ns.map ul))::O) H5:=z6.pull .k1;refine kS.mk z7.at nofun ⟨cs++[c],by rw[e1,dL];rfl,λx hx=>?_,?_⟩
   .rcases mem_append.mp hx with hx|hx
    .exact hc x hx
    .rw[mem_singleton.mp hx];exact⟨c0,c1⟩
   .have z8:=z7.set (o':=v4 (ys++[ul ⟨#[c]⟩])) rfl;have z9:=aB (n:=m+3+(ys++[ul ⟨#[c]⟩]).length) (z8.pull .k1) (by rw[ci];simp;omega);exact z9.pull .k1
  .obtain⟨cs,e1,hc,z5⟩:=hI;have hcl:cs.length=(1+s).toNat:=by rw[<-hl,e1,ce]
   left;refine tN (G:=⟨tab,R,ae tab R (k-1),true⟩) (zs:=cs.map λc=>⟨#[c]⟩) (by rw[z5.at,e1,List.map_map];rfl) ?_ (by decide) ?_
   .rw[List.map_map,ce];have:(cs.map ((λx:Str=>x.length)∘λc=>⟨#[c]⟩)).sum=cs.length:=by
     clear hcl e1 hc
     induction cs with
     |nil=>rfl
     |cons c cs ih=>rw[map_cons,sum_cons,ih,length_cons];show 1+cs.length=_;omega
    omega
   .rw[kU];refine eK (R:=R) (k:=k) hns (w:=⟨cs.toArray⟩) ⟨⟨?_,?_⟩,λc hc'=>hc c (by simpa using hc')⟩ (aB (n:=m+12) z5.drop nofun) (λw H' hw hn z=>q w H' hw hn z)
    .show 1<=cs.toArray.size;rw[ge];omega
    .show cs.toArray.size<=8;rw[ge];omega
 .exact eK (R:=R) (k:=k) hns hw (aB (n:=m+12) z3 nofun) (λw H' hw hn z=>q w H' hw hn z)
end
def dr (h:¬ x ∈ kvs.map (·.1)):putK kvs x v=kvs++[(x,v)]:=by
 unfold putK;rw[if_neg];intro z;obtain⟨kv,m,e⟩:=any_eq_true.mp z;exact h (List.mem_map.mpr ⟨kv,m,of_decide_eq_true e⟩)
abbrev a8 (ns:List Str):List Key:=ns.map Sum.inr
def aL:Sum.inr w ∈ a8 ns ↔ w ∈ ns:=by
 unfold a8;rw[List.mem_map];exact⟨λ⟨x,h,e⟩=>by cases e;exact h,λh=>⟨w,h,rfl⟩⟩
def gh (cs:List (Str×Int)):(aD cs).map (·.1)=a8 (cs.map (·.1)):=by
 unfold aD a8;rw[List.map_map,List.map_map]
 rfl
section
variable {B dx d1 d2:Addr}{kb:List (Key×V)}{cs:List (Str×Int)}{ns:List Str}{F G:List ag}{v:V}{n:Nat}
def jN (hk:1<=k)(z:Sep (pt B (wf (R.cad 13) dx [])::O) H)(q:∀ d1 d2 H',Sep (bg R B dx d1 d2 [] [] O) H'->Q ut H'):ae tab R k 23 [sK B] H Q E:=by
 delta cb;right;rename_i d1 H1 z1 H2 z2 d2 H3 z3 H4 z4;exact q d1 d2 _ (z4.sub (.cons .k2 (.cons .k1 (.cons .e .refl))))
def lq (ro:Ro K R)(hk:3*n+4<=k)(hw:Nm w)(hb:kb.map (·.1)=a8 (cs.map (·.1)))(hl:cs.length<=100)(hn:w ∉ cs.map (·.1))(hns:∀ w ∈ ns,w ∈ cs.map (·.1)) (ok:jv ns n b) (hv:ow R F n v b) (z:Sep (bg R B dx d1 d2 kb cs (G++F)) H)
  (q:∀ l vs H',cL (cP R F n) vs b->Sep (bg R B dx d1 d2 (kb++[(.inr w,sK l)]) (cs++[(w,c5 (a7 cs) n b)]) (pt l (v4 vs)::(G++F))) H'->Q ut H'):ae tab R k 25 [sK B,ul w,v] H Q E:=by
 delta eJ;right;refine qI ro nofun hw z (λH1 z1=>?_);right;refine⟨_,13,_,_,_,rfl,z1.at,rfl,rfl,?_⟩;right;refine vD nofun z1 ?_;rw[p9 (by rw[hb,aL];exact hn)];right;refine kz ro (λw h=>by rw[hb,aL];exact hns w h) n nofun ok hv z1 (λH2 z2=>?_);right;refine pJ ro hns n nofun ok hv z2 (λH3 z3=>?_);right;refine jO (k:=.inr w) z3 .k2 (by unfold aD;rw[ce];omega) (dr (by rw[gh,aL];exact hn)) (λH4 z4=>?_);obtain⟨l0,vs,rfl,m,a⟩:=hv;right;refine cT z4 (fz (G:=[_,_,_]++G) m z4) (λl H5 z5=>?_);right;have hbl:kb.length<=10000:=by
  have:=congrArg List.length hb;unfold a8 at this;rw[ce,ce,ce]at this
  omega
 refine jO (k:=.inr w) z5 .k2 hbl (dr (by rw[hb,aL];exact hn)) (λH6 z6=>?_);right;have e:aD (cs++[(w,c5 (a7 cs) n b)])=aD cs++[(.inr w,tz (c5 (a7 cs) n b))]:=by unfold aD;rw[dL];rfl
 refine q l vs _ a ?_;unfold bg;rw[e];exact z6.sub (.cons .k1 (.cons .k1 (.cons .k1 (.cons .e .refl))))
def eB (ro:Ro K R)(hk:3*n+4<=k)(hb:kb.map (·.1)=a8 (cs.map (·.1)))(hns:∀ w ∈ ns,w ∈ cs.map (·.1)) (ok:jv ns n b) (hv:ow R F n v b) (z:Sep (bg R B dx d1 d2 kb cs (G++F)) H) (q:∀ H',Sep (bg R B dx d1 d2 kb cs (G++F)) H'->Q (tz (c5 (a7 cs) n b)) H'):ae tab R k 27 [sK B,v] H Q E:=by
 delta f7;right;refine kz ro (λw h=>by rw[hb,aL];exact hns w h) n nofun ok hv z (λH2 z2=>?_);right;exact pJ ro hns n nofun ok hv z2 q
end
abbrev cf (N:List (Str×List Itm)):List (Str×Int):=N.foldl (λcs p=>cs++[(p.1,c5 (a7 cs) 2 p.2)]) []
variable {N:List (Str×List Itm)}{p:Str×List Itm}
def gW:cf (N++[p])=cf N++[(p.1,c5 (a7 (cf N)) 2 p.2)]:=by
 unfold cf;rw[List.foldl_append]
 rfl
def lU:∀ (N:List (Str×List Itm)) (a:List (Str×Int)),(N.foldl (λcs p=>cs++[(p.1,c5 (a7 cs) 2 p.2)]) a).map (·.1)=a.map (·.1)++N.map (·.1)
 | [],a=>by rw[List.foldl_nil,List.map_nil,append_nil]
 |p::N,a=>by
  rw[foldl_cons,lU N,dL,le]
  rfl
def dh (N:List (Str×List Itm)):(cf N).map (·.1)=N.map (·.1):=lU N []
abbrev mw (F:List ag)(kvs:List (Key×V))(N:List (Str×List Itm)):Prop:=kvs.map (·.1)=a8 (N.map (·.1))/\∀ j w b,N[j]? =some (w,b)->∃ l,kvs[j]? =some (.inr w,sK l)/\gC F 2 (sK l) b/\jv ((N.take j).map (·.1)) 2 b
abbrev yq (N:List (Str×List Itm)):Prop:=(N.map (·.1)).Nodup/\∀ w ∈ N.map (·.1),Nm w
def mw.mono {F':List ag}(h:mw F kvs N)(up:∀ A ∈ F,A ∈ F'):mw F' kvs N:=⟨h.1,λj w b e=>let⟨l,e1,s,o⟩:=h.2 j w b e;⟨l,e1,gC.mono up s,o⟩⟩
def mw.len (h:mw F kvs N):kvs.length=N.length:=by
 have:=congrArg List.length h.1;unfold a8 at this
 rwa [ce,ce,ce]at this
def mw.snoc {l:Addr}(h:mw F kvs N)(s:gC F 2 (sK l) b)(o:jv (N.map (·.1)) 2 b):mw F (kvs++[(.inr w,sK l)]) (N++[(w,b)]):=by
 refine⟨by rw[dL,h.1];unfold a8;rw[dL,dL];rfl,λj w' b' e=>?_⟩
 by_cases hj:j<N.length
 .rw[getElem?_append_left hj]at e;obtain⟨l',e1,s',o'⟩:=h.2 j w' b' e;refine⟨l',by rw[getElem?_append_left (by rw[h.len];exact hj)];exact e1,s',?_⟩;rw[List.take_append_of_le_length nofun];exact o'
 .have hj':j=N.length:=by
   have:=(re.mp e).1;rw[ci]at this;simp at this
   omega
  subst hj';rw[getElem?_append_right (ol _),Nat.sub_self]at e;cases e;refine⟨l,by rw[<-h.len,getElem?_append_right (ol _),Nat.sub_self];rfl,s,?_⟩;rw[List.take_append_of_le_length (ol _),take_of_length_le (ol _)];exact o
section
variable {F G:List ag}{h nd:Addr}{m most:Int}
def oZ (ro:Ro K R)(hk:8<=k)(h0:0<=most)(h5:most<=5)(hm:m<=1000000000000)(z:Sep (hand h m::(G++F)) H)
  (q:∀ nd kvs N Δ H',mw (Δ++F) kvs N->yq N->N.length<=5->Sep (hand h (m+100000000)::pt nd (.dK kvs)::(G++(Δ++F))) H'->Q (sK nd) H'):ae tab R k 37 [sK h,tz most] H Q E:=by
 have hb2:d7 2=10000000:=by decide
 delta dy;walk_at "gd";rename_i nd H1 z1 r H2 r0 r1 z2;refine fw (λj U H=>∃ u3 u4 u5,U=[some (sK h),some (tz most),some (sK nd),u3,u4,u5]/\∃ kvs N Δ,N.length=j/\mw (Δ++F) kvs N/\yq N/\Sep (hand h (m+1+(j:Int)*10000020)::pt nd (.dK kvs)::(G++(Δ++F))) H) ⟨_,_,_,rfl,[],[],[],rfl,⟨rfl,λj w b e=>nomatch e⟩,⟨List.nodup_nil,λw hw=>(by cases hw)⟩,aB z2 (by simp)⟩ (λj U H hj hI=>?_) (λU H hI=>?_)
 .obtain⟨u3,u4,u5,rfl,kvs,N,Δ,hN,hR,hn,z3⟩:=hI;clear z z1 z2;have hkl:=hR.len;have hkeys:kvs.map (λkv=>kV kv.1)=(N.map (·.1)).map ul:=by
   have:=congrArg (List.map kV) hR.1;unfold a8 at this;rw[List.map_map,List.map_map]at this;exact this
  right;refine dE rfl z3 (.inl (z3.get .k1)) (λT H4 z4=>?_);rw[hkeys]at z4;right;refine g6 ro nofun (by rw[ce];omega) nofun (z4.pull .k1) (λw H5 hw hwn z5=>?_);have z5:=(z5.pull .k1).drop;right;refine dE rfl z5 (.inl (z5.get .k1)) (λT2 H6 z6=>?_);rw[hkeys]at z6;right;have z7:Sep (hand h (m+1+(j:Int)*10000020+12)::pt T2 (v4 ((N.map (·.1)).map ul))::((pt nd (.dK kvs)::G)++(Δ++F))) H6:=z6.pull .k1;refine kY ro 2 (k:=k-1) nofun ⟨by omega,by omega⟩ (by rw[hb2];omega) (by rw[ce];omega) z7 (λl b Δ1 H7 ok hlb s z8=>?_);have z8:Sep (hand h (m+1+(j:Int)*10000020+12+d7 2)::pt nd (.dK kvs)::(G++(Δ1++(Δ++F)))) H7:=(z8.pull .k1).drop;right;refine kM ro 2 (k:=k-1) (F:=Δ1++(Δ++F)) (G:=[hand h _,pt nd (.dK kvs)]++G) nofun ok s z8 (λc H8 z9=>?_);have z9:Sep (hand h (m+1+(j:Int)*10000020+12+d7 2)::pt nd (.dK kvs)::(G++(Δ1++(Δ++F)))) H8:=z9;left;refine bQ ?_;left;obtain⟨l0,vs,e0,hp,a⟩:=s;cases e0;have hvl:vs.length<=30:=by rw[a.1];exact ok.1
  refine pN (i:=b2i (!c)) z9 (fz (G:=[_,_]++G) hp z9) (by have:=dg (!c);omega) (by have:=dg (!c);omega) nofun (λp H9 z10=>?_);right;refine jO (k:=.inr w) z10 .k2 (by rw[hkl];omega) (dr (by rw[hR.1,aL];exact hwn)) (λH10 z11=>?_);obtain⟨b',vs',e',a',ok'⟩:∃ b' vs',(pi (b2i (!c)).toNat vs).flatten=vs'/\cL (g8 (Δ1++(Δ++F)) 2) vs' b'/\jv (N.map (·.1)) 2 b':=by
   cases c
   .exact⟨b,vs,by show(pi 1 vs).flatten=vs;simp,a,ok⟩
   .exact⟨[],[],rfl,.nil,by decide,λi hi=>(by cases hi)⟩
  rw[e']at z11;have z12:Sep (hand h (m+1+((j+1:Nat):Int)*10000020)::pt nd (.dK (kvs++[(.inr w,sK p)]))::(G++([pt p (v4 vs')]++(Δ1++(Δ++F))))) H10:=Sep.mv (P:=[hand h _,pt nd _]) (Δ:=[pt p (v4 vs')]) (L:=G) (O:=Δ1++(Δ++F)) (aB (z11.sub (.cons .k1 (.cons .k1 .refl))) (by rw[hb2];omega));have up:∀ A,A ∈ Δ1++(Δ++F)->A ∈ ((pt p (v4 vs')::(Δ1++Δ))++F):=λA h=>by
   rw[cons_append,le];exact dl _ h
  refine⟨_,_,_,rfl,kvs++[(.inr w,sK p)],N++[(w,b')],pt p (v4 vs')::(Δ1++Δ),by rw[ci,hN];rfl,(hR.mono λA h=>up A (ay h)).snoc ⟨p,vs',rfl,li,a'.map λv i=>g8.mono up⟩ ok',⟨?_,?_⟩,?_⟩
  .rw[dL];refine nodup_append.mpr ⟨hn.1,by simp,λx hx y hy=>?_⟩;have:y=w:=by simpa using hy
   rw[this];intro e;exact hwn (e▸hx)
  .intro x hx;rw[dL]at hx;rcases mem_append.mp hx with hx|hx
   .exact hn.2 x hx
   .have:x=w:=by simpa using hx
    rw[this];exact hw
  .rw[cons_append,le];exact z12
 .obtain⟨u3,u4,u5,rfl,kvs,N,Δ,hN,hR,hn,z3⟩:=hI;right;exact q nd kvs N Δ _ hR hn nofun (aB z3 nofun)
end
def lx:∀ {kvs:List (Key×V)}{j:Nat}{x:Key}{v:V},(kvs.map (·.1)).Nodup->kvs[j]? =some (x,v)->aX kvs x=some v
 |p::kvs,0,x,v,_,h=>by cases h;exact bD rfl
 |p::kvs,j+1,x,v,nd,h=>by
  have nd':=nodup_cons.mp nd;have h':kvs[j]? =some (x,v):=h;rw[cn (λe=>nd'.1 (by show p.1 ∈ _;rw[e];exact List.mem_map.mpr ⟨_,cr h',rfl⟩))];exact lx nd'.2 h'
def rL {a b:List (Key×V)}(h:aX a x=some v):aX (a++b) x=some v:=by
 unfold aX at h⊢;rw[List.find?_append];cases e:a.find? (λkv=>decide (kv.1=x)) with
 |none=>rw[e]at h;cases h
 |some y=>rw[e]at h;exact h
def rD {a b:List (Key×V)}(h:¬ x ∈ a.map (·.1)):aX (a++b) x=aX b x:=by
 unfold aX;rw[List.find?_append];have e:a.find? (λkv=>decide (kv.1=x))=none:=List.find?_eq_none.mpr λkv hm hd=>h (List.mem_map.mpr ⟨kv,hm,of_decide_eq_true hd⟩)
 rw[e]
 rfl
def mq (h:mw F kvs N)(hn:yq N):(kvs.map (·.1)).Nodup:=by
 rw[h.1];unfold a8;exact List.Pairwise.map Sum.inr (λa b hne e=>hne (Sum.inr.inj e)) hn.1
def uU {j:Nat}{kv:Key×V}(h:mw F kvs N)(e:kvs[j]? =some kv):∃ w b l,N[j]? =some (w,b)/\kv=(.inr w,sK l)/\gC F 2 (sK l) b/\jv ((N.take j).map (·.1)) 2 b:=by
 have hj:=(re.mp e).1;rw[h.len]at hj;have e2:N[j]? =some (N[j]'hj):=lf hj;obtain⟨l,e1,s,o⟩:=h.2 j _ _ e2;rw[e]at e1;exact⟨_,_,l,e2,Option.some.inj e1,s,o⟩
def pG {j:Nat}(hn:yq N)(e:N[j]? =some (w,b)):w ∉ (N.take j).map (·.1):=by
 have hj:=(re.mp e).1;have e3:N.map (·.1)=(N.take j).map (·.1)++w::(N.drop (j+1)).map (·.1):=by
  rw[<-map_cons (f:=λp:Str×List Itm=>p.1) (a:=(w,b)),<-dL]
  congr 1
  have:=re.mp e;obtain⟨h1,h2⟩:=this;rw[<-h2,List.getElem_cons_drop,take_append_drop]
 have nd:=hn.1;rw[e3]at nd;intro hm;exact(nodup_append.mp nd).2.2 w hm w li rfl
def take_snoc {j:Nat}(e:N[j]? =some p):N.take (j+1)=N.take j++[p]:=by rw[take_succ,e];rfl
abbrev BY (R:Rt)(F:List ag)(kb:List (Key×V))(N:List (Str×List Itm)):Prop:=∀ w b,(w,b) ∈ N->∃ l,aX kb (.inr w)=some (sK l)/\ow R F 2 (sK l) b
section
variable {F G:List ag}{nd cd:Addr}{kvs:List (Key×V)}{N:List (Str×List Itm)}
def tM (ro:Ro K R)(hk:14<=k)(hR:mw F kvs N)(hn:yq N)(h5:N.length<=5)(z:Sep (pt nd (.dK kvs)::(G++F)) H)
  (q:∀ B dx d1 d2 kb o Δ H',kb.map (·.1)=a8 (N.map (·.1))->BY R (Δ++F) kb N->Sep (bg R B dx d1 d2 kb (cf N) (pt nd (.aP o (.dK kvs))::(G++(Δ++F)))) H'->Q (sK B) H'):ae tab R k 40 [sK nd] H Q E:=by
 delta eW;right;intro B dx h1 h2 h3;refine jN nofun (cH z h1 h2 h3) (λd1 d2 H1 z1=>?_);refine⟨rfl,?_⟩;right;have z1:Sep (pt nd (.dK kvs)::bg R B dx d1 d2 [] [] (G++F)) H1:=z1.sub (.cons (.j2 (.j2 .e)) (.cons .e (.cons .e (.cons .e (.drop .refl)))));refine AR z1 (λo H2 z2=>?_);have z2:Sep (bg R B dx d1 d2 [] [] (pt nd (.aP o (.dK kvs))::(G++F))) H2:=z2.sub (.cons .k1 (.cons .k1 (.cons .k1 .refl)));refine l6 (o:=o) (kvs:=kvs) (λj U H=>∃ u2,U=[some (sK nd),some (sK B),u2]/\∃ kb Δ,kb.map (·.1)=a8 ((N.take j).map (·.1))/\BY R (Δ++F) kb (N.take j)/\Sep (bg R B dx d1 d2 kb (cf (N.take j)) (pt nd (.aP o (.dK kvs))::(G++(Δ++F)))) H) ⟨_,rfl,[],[],rfl,λw b hm=>(by cases hm),z2⟩ ?_ ?_ ?_
 .rintro j U H ⟨u2,rfl,kb,Δ,_,_,z⟩;exact z.get .k3
 .rintro j kv U H hx ⟨u2,rfl,kb,Δ,hkb,hB,z⟩;obtain⟨w,b,l,e,rfl,s,ok⟩:=uU hR hx;have hwn:=pG hn e;have hcn:=dh (N.take j);right;refine⟨_,13,_,_,_,rfl,z.at,rfl,rfl,?_⟩;right;refine vf (k:=.inr w) (z.get .k3) (lx (mq hR hn) hx) ?_;refine mD ro 2 (k:=k-1) (F:=Δ++F) (G:=[_,_,_,_]++G) nofun ok (gC.mono (λA=>ay) s) z (λp Δ1 H3 hm z3=>?_);right;refine lq ro (n:=2) (G:=pt nd (.aP o (.dK kvs))::G) (F:=Δ1++(Δ++F)) (ns:=(N.take j).map (·.1)) nofun (hn.2 w (List.mem_map.mpr ⟨_,cr e,rfl⟩)) (by rw[hkb,hcn]) ?_ (by rw[hcn];exact hwn) (λw h=>by rw[hcn];exact h) ok hm z3 (λl' vs H4 a z4=>?_)
  .have:=congrArg List.length hcn;rw[ce,ce,db]at this
   omega
  .right;refine⟨_,rfl,kb++[(.inr w,sK l')],pt l' (v4 vs)::(Δ1++Δ),?_,?_,?_⟩
   .rw[dL,hkb,take_snoc e];unfold a8;rw[dL,dL]
    rfl
   .have up:∀ A,A ∈ Δ1++(Δ++F)->A ∈ (pt l' (v4 vs)::(Δ1++Δ))++F:=λA h=>by
     rw[cons_append,le];exact dl _ h
    intro w' b' hm;rw[take_snoc e]at hm;rcases mem_append.mp hm with hm|hm
    .obtain⟨l2,e2,i2⟩:=hB w' b' hm;exact⟨l2,rL e2,ow.mono (λA h=>up A (ay h)) i2⟩
    .cases mem_singleton.mp hm;exact⟨l',(rD (by rw[hkb,aL];exact hwn)).trans (bD rfl),l',vs,rfl,li,a.map λv i=>cP.mono up⟩
   .rw[take_snoc e,gW,cons_append,le];exact Sep.mv (P:=[_,_,_]) (Δ:=[pt l' (v4 vs)]) (L:=pt nd (.aP o (.dK kvs))::G) (O:=Δ1++(Δ++F)) z4
 .rintro U H ⟨u2,rfl,kb,Δ,hkb,hB,z⟩;right;rw[hR.len,take_of_length_le (ol _)]at hkb hB z;exact q B dx d1 d2 kb o Δ _ hkb hB z
def ot {o:Obj}(ro:Ro K R)(hk:6<=k)(hR:mw F kvs N)(hn:yq N)(h5:N.length<=5)(z:Sep (pt nd (.aP o (.dK kvs))::(G++F)) H)
  (q:∀ cd H',Sep (pt cd (.dK (aD (cf N)))::pt nd (.aP o (.dK kvs))::(G++F)) H'->Q (sK cd) H'):ae tab R k 41 [sK nd] H Q E:=by
 delta cW;right;rename_i cd H1 z1;refine yV (z1.get .k1) ?_;refine l6 (o:=o) (kvs:=kvs) (λj U H=>∃ u2,U=[some (sK nd),some (sK cd),u2]/\Sep (pt cd (.dK (aD (cf (N.take j))))::pt nd (.aP o (.dK kvs))::(G++F)) H) ⟨_,rfl,z1⟩ ?_ ?_ ?_
 .rintro j U H ⟨u2,rfl,z⟩;exact z.get .k1
 .rintro j kv U H hx ⟨u2,rfl,z⟩;obtain⟨w,b,l,e,rfl,s,ok⟩:=uU hR hx;have hwn:=pG hn e;have hcn:=dh (N.take j);right;refine vf (k:=.inr w) (z.get .k1) (lx (mq hR hn) hx) ?_;refine ml ro (λw h=>by rw[hcn];exact h) 2 (k:=k-1) (G:=pt nd (.aP o (.dK kvs))::G) nofun ok s z (λH2 z2=>?_);right;refine jO (k:=.inr w) z2 .e ?_ (dr (by rw[gh,aL,hcn];exact hwn)) (λH3 z3=>?_)
  .have:=congrArg List.length hcn;rw[ce,ce,db]at this;unfold aD;rw[ce]
   omega
  .right;refine⟨_,rfl,?_⟩;rw[take_snoc e,gW];have ek:aD (cf (N.take j)++[(w,c5 (a7 (cf (N.take j))) 2 b)])=aD (cf (N.take j))++[(.inr w,tz (c5 (a7 (cf (N.take j))) 2 b))]:=by unfold aD;rw[dL];rfl
   rw[ek];exact z3
 .rintro U H ⟨u2,rfl,z⟩;right;rw[hR.len,take_of_length_le (ol _)]at z;exact q cd _ z
end
section
variable {B dx d1 d2 cd:Addr}{kb:List (Key×V)}{cs:List (Str×Int)}{ns:List Str}{F G:List ag}{v:V}{n:Nat}
def jq (ro:Ro K R)(hk:16<=k)(hn:n<=3)(hb:kb.map (·.1)=a8 (cs.map (·.1)))(hns:∀ w ∈ ns,w ∈ cs.map (·.1)) (ok:jv ns n b) (hb29:b.length<=29) (hv:gC F n v b) (z:Sep (bg R B dx d1 d2 kb cs (pt cd (.dK (aD cs))::(G++F))) H)
  (q:∀ Δ H',Sep (bg R B dx d1 d2 kb cs (pt cd (.dK (aD cs))::(G++(Δ++F)))) H'->Q (.bl true) H'):ae tab R k 44 [sK B,sK cd,v] H Q E:=by
 delta dN;right;refine yh ro n (k:=k-1) (F:=F) (G:=[_,_,_,_]++G) nofun ok hv z (λp vs Δ H1 a z1=>?_);have hvl:vs.length<=29:=by rw[a.1];exact hb29
 right;have z2:Sep (bg R B dx d1 d2 kb cs ((pt cd (.dK (aD cs))::G)++([pt p (v4 vs)]++(Δ++F)))) H1:=Sep.mv (P:=[]) (Δ:=[pt p (v4 vs)]) (L:=[_,_,_,_]++G) (O:=Δ++F) z1;have up:∀ A,A ∈ Δ++F->A ∈ [pt p (v4 vs)]++(Δ++F):=λA h=>dl _ h
 refine eB ro (k:=k-1) (n:=n) (ns:=ns) nofun hb hns ok ⟨p,vs,rfl,li,a.map λv i=>cP.mono up⟩ z2 (λH2 z3=>?_);right;refine o8 nofun rfl ?_;right;have z4:Sep (pt cd (.dK (aD cs))::(([pt B (wf (R.cad 13) dx [("blocks",sK d1),("counts",sK d2)]),pt d1 (.dK kb),pt d2 (.dK (aD cs))]++G)++([pt p (v4 vs)]++(Δ++F)))) H2:=z3.pull .k3;refine ml ro hns n (k:=k-1) nofun ok (gC.mono (λA h=>up A (ay h)) hv) z4 (λH3 z5=>?_);left;refine lR rfl rfl ?_;rw[dC rfl];left;refine aq rfl ?_;have z6:Sep (pt p (v4 vs)::bg R B dx d1 d2 kb cs (pt cd (.dK (aD cs))::(G++(Δ++F)))) H3:=by
  have z7:=Sep.mv (P:=[]) (Δ:=[pt cd (.dK (aD cs)),pt B (wf (R.cad 13) dx [("blocks",sK d1),("counts",sK d2)]),pt d1 (.dK kb),pt d2 (.dK (aD cs))]++G) (L:=[pt p (v4 vs)]) (O:=Δ++F) z5;have z8:Sep (pt p (v4 vs)::pt cd (.dK (aD cs))::pt B (wf (R.cad 13) dx [("blocks",sK d1),("counts",sK d2)])::pt d1 (.dK kb)::pt d2 (.dK (aD cs))::(G++(Δ++F))) H3:=z7;exact z8.sub (.cons .e (.cons .k1 (.cons .k1 (.cons .k1 .refl))))
 left;refine⟨p,vs,rfl,z6.at,?_⟩;right;intro x dx' h1 h2 h3;refine rB (n:=Bn.m) (i:=0) ro nofun nofun nofun (cH z6 h1 h2 h3) (λH4 z7=>?_);refine⟨rfl,?_⟩;left;refine⟨vs,z7.get .k1,gF z7 .k1 nofun (λH5 z8=>?_)⟩;right;have z9:Sep (bg R B dx d1 d2 kb cs ((pt cd (.dK (aD cs))::G)++([fD R x (.sp (.set .m 0)),pt p (v4 (vs++[sK x]))]++(Δ++F)))) H5:=Sep.mv (P:=[]) (Δ:=[fD R x (.sp (.set .m 0)),pt p (v4 (vs++[sK x]))]) (L:=[_,_,_,_]++G) (O:=Δ++F) z8;have up2:∀ A,A ∈ Δ++F->A ∈ [fD R x (.sp (.set .m 0)),pt p (v4 (vs++[sK x]))]++(Δ++F):=λA h=>dl _ (dl _ h)
 have oks:(Rw.sp (.set .m 0)).ok:=⟨by decide,by decide⟩;have i1:cP R ([fD R x (.sp (.set .m 0)),pt p (v4 (vs++[sK x]))]++(Δ++F)) n (sK x) (.row (.sp (.set .m 0))):=by cases n<;>exact⟨x,rfl,li⟩
 have im2:ow R ([fD R x (.sp (.set .m 0)),pt p (v4 (vs++[sK x]))]++(Δ++F)) n (sK p) (b++[.row (.sp (.set .m 0))]):=⟨p,vs++[sK x],rfl,dl _ li,(a.map λv i=>cP.mono up2).snoc i1⟩;refine eB ro (k:=k-1) (n:=n) (ns:=ns) (b:=b++[.row (.sp (.set .m 0))]) nofun hb hns ⟨by rw[ci];simp;omega,λi hi=>?_⟩ im2 z9 (λH6 z10=>?_)
 .rcases mem_append.mp hi with hi|hi
  .exact ok.2 i hi
  .rw[mem_singleton.mp hi];cases n<;>exact oks
 .have e:c5 (a7 cs) n (b++[.row (.sp (.set .m 0))])=c5 (a7 cs) n b+1:=by
   show((b++[Itm.row (.sp (.set .m 0))]).map _).sum=_;rw[dL,List.sum_append];cases n<;>rfl
  left;rw[e];refine iW rfl rfl ?_;rw[dC rfl];refine q ([fD R x (.sp (.set .m 0)),pt p (v4 (vs++[sK x]))]++Δ) _ ?_;rw[le];exact z10
end
def rep1 (c:Nat):∀ (n:Nat) (a:Array Nat),(pi n #[c]).foldl (·++·) a=a++(pi n c).toArray
 |0,a=>by simp
 |n+1,a=>by
  rw[replicate_succ,foldl_cons,rep1 c n,replicate_succ];apply Array.toList_inj.mp;simp only[Array.toList_append,le]
  rfl
def mul_one (h1:1<=i)(h8:i<=8)(q:∀ w:Str,w.cps=(pi i.toNat c).toArray->Q (ul w) H):rq ⟨#[c]⟩ i H Q:=by
 unfold rq
 by_cases e:i=1
 .subst e;exact .inl ⟨.inr rfl,q _ rfl⟩
 .refine .inr ⟨by omega,by omega,by show 1<=1000;omega,by show 1≠0;omega,q _ ?_⟩;show(pi i.toNat #[c]).foldl (·++·) #[]=_;rw[rep1];simp
def yk {n:Nat}(e:w.cps=(pi n c).toArray)(h1:1<=n)(h8:n<=8)(c0:97<=c)(c1:c<=122):Nm w:=by
 refine⟨⟨?_,?_⟩,λx hx=>?_⟩
 .show 1<=w.cps.size;rw[e];simpa using h1
 .show w.cps.size<=8;rw[e];simpa using h8
 .rw[e]at hx;have:x=c:=by
   have hx':x ∈ pi n c:=by simpa using hx
   exact List.eq_of_mem_replicate hx'
  omega
abbrev An (w:Str):Option Nat:=w.cps[0]?
def xi {n:Nat}(e:w.cps=(pi n c).toArray)(h1:1<=n):An w=some c:=by
 obtain⟨m,rfl⟩:∃ m,n=m+1:=⟨n-1,by omega⟩;unfold An;rw[e,replicate_succ];simp
def Bm {j:Nat}(h:j<6):eP ("abcdefg":Str).cps.toList (0+(j:Int))=some (97+j):=by
 have:j=0\/j=1\/j=2\/j=3\/j=4\/j=5:=by omega
 rcases this with rfl|rfl|rfl|rfl|rfl|rfl<;>decide+kernel
def qO {cs:List (Str×Int)}(h:w ∉ cs.map (·.1)):a7 (cs++[(w,i)]) w=i:=by
 unfold a7
 induction cs with
 |nil=>simp[lookup_cons]
 |cons p cs ih=>
  have hne:w≠p.1:=λe=>h (by rw[e];exact List.mem_map.mpr ⟨p,li,rfl⟩)
  rw[cons_append,lookup_cons,beq_eq_false_iff_ne.mpr hne];exact ih λhm=>h (by rw[map_cons];exact dl _ hm)
section
variable {F G:List ag}{n:Nat}{x dx p:Addr}{vs:List V}{b:List Itm}
def fY (hk:1<=k)(hp:pt p (v4 vs) ∈ F)(a:cL (cP R F n) vs b)(z:Sep (G++F) H)(h1:H x=none)(h2:H dx=none)(h3:dx≠x)(q:∀ Δ H',cP R (Δ++F) (n+1) (sK x) (.tms m b)->Sep (G++(Δ++F)) H'->Q ut H'):
  ae tab R k 16 [sK x,tz m,sK p] (upd (upd H dx (.own x)) x (wf (R.cad 11) dx [])) Q E:=by
 refine jK (G:=pt dx (.own x)::G) hk hp (cH z h1 h2 h3) (λl H2 z2=>?_);exact q (pt x _::[pt l (v4 vs)]) H2 ⟨x,dx,l,vs,rfl,li,dl _ li,a.map λv i=>cP.mono λA h=>dl _ (dl _ h)⟩ (toF (L:=[_,_]) ((z2.pull .k2).drop))
def fW {i:Itm}{es:List V}(e:es=[v])(hi:cP R F n v i)(z:Sep (G++F) H)(q:∀ p H',cL (cP R ([pt p (v4 [v])]++F) n) [v] [i]->Sep (G++([pt p (v4 [v])]++F)) H'->Q (sK p) H'):rm es H Q:=by
 subst e;exact il z (by show 1<=10000;omega) λp H' z'=>q p H' (cL.nil.snoc (cP.mono (λA=>ay) hi)) (toF (L:=[_]) z')
end
section
variable {F G:List ag}{h cd B dx d1 d2:Addr}{m:Int}
abbrev wM (R:Rt)(h cd B dx d1 d2:Addr)(F G:List ag)(m:Int)(j:Nat)(U:St)(H:Hp):Prop:=∃ u5 u6 u7 la c,U=[some (sK h),some (sK cd),some (sK B),some (tz (if j=0 then 1 else c)),some (sK la),u5,u6,u7]/\(j=0->c=0)/\
 ∃ kb cs bl vsl Δ,kb.map (·.1)=a8 (cs.map (·.1))/\cs.length=j/\(∀ w ∈ cs.map (·.1),∃ i,i<j/\An w=some (97+i))/\bl.length<=1/\jv (cs.map (·.1)) 0 bl/\c5 (a7 cs) 0 bl=c/\pt la (v4 vsl) ∈ Δ++F/\cL (cP R (Δ++F) 0) vsl bl/\Sep (bg R B dx d1 d2 kb cs (hand h (m+(j:Int))::(G++(Δ++F)))) H
def kO {E:St->XK}{j:Nat}(ro:Ro K R)(hk:16<=k)(hj:j<6)(hm:m<=1099000000000)(hI:wM R h cd B dx d1 d2 F G m j U H)(q:∀ σ' H',wM R h cd B dx d1 d2 F G m (j+1) σ' H'->D.nx σ' H'):
  wB (nE (bY 3 bT.body)) ⟨tab,R,ae tab R (k-1),true⟩ D E (U.set 5 (some (tz (0+(j:Int))))) H:=by
 obtain⟨u5,u6,u7,la,c,rfl,hc0,kb,cs,bl,vsl,Δ,hkb,hcl,hhd,hbl,okl,hcn,hla,al,z⟩:=hI;right;refine zW (by decide+kernel) (Bm hj) ?_;have z0:Sep (hand h (m+(j:Int))::bg R B dx d1 d2 kb cs (G++(Δ++F))) H:=z.pull .k3;clear z;walk_at "gd";rename_i r H1 r0 r1 z1;refine mul_one nofun nofun (λw ew=>?_);have hnm:Nm w:=yk ew nofun nofun nofun nofun;have hhw:An w=some (97+j):=xi ew nofun;have hwn:w ∉ cs.map (·.1):=λhm=>by
  obtain⟨i,hi,e⟩:=hhd w hm;rw[hhw]at e;have:=Option.some.inj e
  omega
 left;have z2:Sep (([pt B (wf (R.cad 13) dx [("blocks",sK d1),("counts",sK d2)]),pt d1 (.dK kb),pt d2 (.dK (aD cs)),hand h (m+(j:Int)+1)]++G)++(Δ++F)) H1:=by
  have:Sep (bg R B dx d1 d2 kb cs (hand h (m+(j:Int)+1)::(G++(Δ++F)))) H1:=z1.sub (.cons .k1 (.cons .k1 (.cons .k1 .refl)));simpa only [le,cons_append,nil_append] using this
 iterate 3 (refine⟨rfl,?_⟩;left)
 intro x1 y1 a1 a2 a3;refine fY (k:=k-1) (n:=0) (m:=9) nofun hla al z2 a1 a2 a3 (λΔ1 H2 i1 z3=>⟨rfl,?_⟩);left;refine fW rfl i1 z3 (λp1 H3 l1 z4=>?_);left;intro x2 y2 a1 a2 a3;refine fY (k:=k-1) (n:=1) (m:=9) nofun li l1 z4 a1 a2 a3 (λΔ2 H4 i2 z5=>⟨rfl,?_⟩);left;refine fW rfl i2 z5 (λp2 H5 l2 z6=>?_);left;intro x3 y3 a1 a2 a3;refine fY (k:=k-1) (n:=2) (m:=9) nofun li l2 z6 a1 a2 a3 (λΔ3 H6 i3 z7=>⟨rfl,?_⟩);left;refine⟨rfl,?_⟩;left;intro x4 y4 a1 a2 a3;refine rB (n:=Bn.m) (i:=1) ro nofun nofun nofun (cH z7 a1 a2 a3) (λH7 z8=>⟨rfl,?_⟩);left;refine il z8 (by show 2<=10000;omega) (λp3 H8 z9=>?_);obtain⟨F3,eF,up3⟩:∃ F3,Δ3++([pt p2 (v4 [sK x2])]++(Δ2++([pt p1 (v4 [sK x1])]++(Δ1++(Δ++F)))))=F3++F/\True:=⟨Δ3++([pt p2 (v4 [sK x2])]++(Δ2++([pt p1 (v4 [sK x1])]++(Δ1++Δ)))),by simp only[le],True.intro⟩;have z9:Sep ([pt p3 (v4 [sK x3,sK x4]),sd R x4 (.set .m 1)]++(([pt B (wf (R.cad 13) dx [("blocks",sK d1),("counts",sK d2)]),pt d1 (.dK kb),pt d2 (.dK (aD cs)),hand h (m+(j:Int)+1)]++G)++(F3++F))) H8:=by rw[<-eF];exact z9
 have i3:cP R (F3++F) 3 (sK x3) (.tms 9 [.tms 9 [.tms 9 bl]]):=by rw[<-eF];exact i3
 have z10:Sep (([pt B (wf (R.cad 13) dx [("blocks",sK d1),("counts",sK d2)]),pt d1 (.dK kb),pt d2 (.dK (aD cs)),hand h (m+(j:Int)+1)]++G)++([pt p3 (v4 [sK x3,sK x4]),fD R x4 (.sp (.set .m 1))]++(F3++F))) H8:=toF (L:=[pt p3 (v4 [sK x3,sK x4]),sd R x4 (.set .m 1)]) (F:=F3++F) z9;have i4:cP R ([pt p3 (v4 [sK x3,sK x4]),fD R x4 (.sp (.set .m 1))]++(F3++F)) 3 (sK x4) (.row (.sp (.set .m 1))):=⟨x4,rfl,dl _ li⟩;have im:ow R ([pt p3 (v4 [sK x3,sK x4]),fD R x4 (.sp (.set .m 1))]++(F3++F)) 3 (sK p3) [.tms 9 [.tms 9 [.tms 9 bl]],.row (.sp (.set .m 1))]:=⟨p3,_,rfl,li,(cL.nil.snoc (cP.mono (λA=>ay) i3)).snoc i4⟩;have ok9:(0:Int)<=9/\(9:Int)<=9:=⟨by decide,by decide⟩;have okm:jv (cs.map (·.1)) 3 [.tms 9 [.tms 9 [.tms 9 bl]],.row (.sp (.set .m 1))]:=by
  refine⟨by show 2<=30;omega,λi hi=>?_⟩;simp only[lv,not_mem_nil,or_false]at hi;rcases hi with rfl|rfl
  .refine⟨ok9,by show 1<=30;omega,λi hi=>?_⟩;rw[mem_singleton.mp hi];refine⟨ok9,by show 1<=30;omega,λi hi=>?_⟩;rw[mem_singleton.mp hi];exact⟨ok9,okl⟩
  .exact⟨by decide,by decide⟩
 left;have zb:Sep (bg R B dx d1 d2 kb cs ((hand h (m+(j:Int)+1)::G)++([pt p3 (v4 [sK x3,sK x4]),fD R x4 (.sp (.set .m 1))]++(F3++F)))) H8:=z10;clear z0 z1 z2 z3 z4 z5 z6 z7 z8 z9 z10;refine⟨rfl,?_⟩;left;refine⟨_,13,_,_,_,rfl,zb.at,rfl,rfl,?_⟩;left;refine lq ro (k:=k-1) (n:=3) (ns:=cs.map (·.1)) nofun hnm hkb nofun hwn (λw h=>h) okm im zb (λl' vs H9 _ z11=>?_);have ec:c5 (a7 cs) 3 [.tms 9 [.tms 9 [.tms 9 bl]],.row (.sp (.set .m 1))]=729*c+1:=by
  show 9*(9*(9*(bl.map (mV (a7 cs) 0)).sum+0)+0)+(1+0)=729*c+1;have:(bl.map (mV (a7 cs) 0)).sum=c:=hcn
  omega
 rw[ec]at z11;have z12:=(z11.pull .k3).drop;clear z11 zb;left;refine⟨.inl ⟨by decide,by decide⟩,?_⟩;left;refine bQ ?_;left;refine⟨.inr ⟨Int.lt_of_lt_of_le (by decide) (dg _).1,Int.lt_of_le_of_lt (dg _).2 (by decide)⟩,?_⟩;have em:729*(if j=0 then 1 else c)*b2i (decide (0<0+(j:Int)))+1=729*c+1:=by
  by_cases e:j=0
  .rw[if_pos e,decide_eq_false nofun,hc0 e];rfl
  .rw[if_neg e,decide_eq_true nofun];show 729*c*1+1=_
   omega
 left;rw[em];refine⟨rfl,?_⟩;left;intro x5 y5 a1 a2 a3;have z13:Sep (([pt B (wf (R.cad 13) dx [("blocks",sK d1),("counts",sK d2)]),pt d1 (.dK (kb++[(.inr w,sK l')])),pt d2 (.dK (aD (cs++[(w,729*c+1)]))),hand h (m+(j:Int)+1)]++G)++([pt p3 (v4 [sK x3,sK x4]),fD R x4 (.sp (.set .m 1))]++(F3++F))) H9:=z12;refine jz nofun (cH z13 a1 a2 a3) (λH10 z14=>⟨rfl,?_⟩);left;have z15:Sep (([pt B (wf (R.cad 13) dx [("blocks",sK d1),("counts",sK d2)]),pt d1 (.dK (kb++[(.inr w,sK l')])),pt d2 (.dK (aD (cs++[(w,729*c+1)]))),hand h (m+(j:Int)+1)]++G)++([pt x5 (wf (R.cad 10) y5 [("called",ul w)])]++([pt p3 (v4 [sK x3,sK x4]),fD R x4 (.sp (.set .m 1))]++(F3++F)))) H10:=toF (L:=[pt x5 (wf (R.cad 10) y5 [("called",ul w)])]) ((z14.pull .k1).drop);have i5:cP R ([pt x5 (wf (R.cad 10) y5 [("called",ul w)])]++([pt p3 (v4 [sK x3,sK x4]),fD R x4 (.sp (.set .m 1))]++(F3++F))) 0 (sK x5) (.dO w):=⟨x5,y5,rfl,li⟩;refine fW rfl i5 z15 (λla' H11 l5 z16=>?_);left;have eD:[pt la' (v4 [sK x5])]++([pt x5 (wf (R.cad 10) y5 [("called",ul w)])]++([pt p3 (v4 [sK x3,sK x4]),fD R x4 (.sp (.set .m 1))]++(F3++F)))=(pt la' (v4 [sK x5])::pt x5 (wf (R.cad 10) y5 [("called",ul w)])::pt p3 (v4 [sK x3,sK x4])::fD R x4 (.sp (.set .m 1))::F3)++F:=rfl;rw[eD]at l5 z16;refine q _ _ ⟨_,_,_,la',729*c+1,rfl,λe=>absurd e nofun,kb++[(.inr w,sK l')],cs++[(w,729*c+1)],[.dO w],[sK x5],_,?_,by rw[ci,hcl];rfl,?_,by show 1<=1;omega,⟨by show 1<=30;omega,λi hi=>?_⟩,?_,li,l5,?_⟩
 .rw[dL,hkb,dL];unfold a8;rw[dL]
  rfl
 .intro x hx;rw[dL]at hx;rcases mem_append.mp hx with hx|hx
  .obtain⟨i,hi,e⟩:=hhd x hx;exact⟨i,by omega,e⟩
  .have:x=w:=by simpa using hx
   rw[this];exact⟨j,by omega,hhw⟩
 .rw[mem_singleton.mp hi];show w ∈ (cs++[(w,729*c+1)]).map (·.1);rw[dL];exact ii _ li
 .show a7 (cs++[(w,729*c+1)]) w+0=_;rw[qO hwn]
  omega
 .have e1:m+((j+1:Nat):Int)=m+(j:Int)+1:=by omega
  rw[e1];exact z16
def oH (ro:Ro K R)(hk:16<=k)(hm:m<=1099000000000)(z:Sep (hand h m::O) H)(q:∀ H',Q (.bl true) H'):ae tab R k 43 [sK h,sK cd] H Q E:=by
 delta bT;left;refine⟨rfl,?_⟩;left;intro B dx h1 h2 h3;refine jN nofun (cH z h1 h2 h3) (λd1 d2 H1 z1=>⟨rfl,?_⟩);right;rename_i la H2 z2;refine fw (λj U H=>wM R h cd B dx d1 d2 [] (pt dx (.own B)::O) m j U H) ⟨_,_,_,la,0,rfl,λ_=>rfl,[],[],[],[],[pt la (v4 [])],rfl,rfl,λw hw=>(by cases hw),by decide,⟨by decide,λi hi=>(by cases hi)⟩,rfl,li,.nil,?_⟩ (λj U H hj hI=>?_) (λU H hI=>?_)
 .have z3:=toF (L:=[pt la (v4 [])]) (G:=bg R B dx d1 d2 [] [] (pt dx (.own B)::hand h m::O)) (F:=[]) (by rw[append_nil];exact z2);have z4:Sep (bg R B dx d1 d2 [] [] (pt dx (.own B)::hand h m::(O++[pt la (v4 [])]))) H2:=z3;have z5:Sep (bg R B dx d1 d2 [] [] (hand h m::pt dx (.own B)::(O++[pt la (v4 [])]))) H2:=z4.sub (.cons .e (.cons .e (.cons .e (.cons .k1 .refl))));have e0:m+((0:Nat):Int)=m:=by omega
  rw[e0];exact z5
 .left;exact kO (k:=k) ro hk hj hm hI (λσ' H' h=>h)
 .obtain⟨u5,u6,u7,la,c,rfl,hc0,kb,cs,bl,vsl,Δ,hkb,hcl,hhd,hbl,okl,hcn,hla,al,z3⟩:=hI;have z2:Sep (([pt B (wf (R.cad 13) dx [("blocks",sK d1),("counts",sK d2)]),pt d1 (.dK kb),pt d2 (.dK (aD cs)),hand h (m+((6:Nat):Int)),pt dx (.own B)]++O)++(Δ++[])) H:=z3;left
  iterate 3 (refine⟨rfl,?_⟩;left)
  intro x1 y1 a1 a2 a3;refine fY (k:=k-1) (n:=0) (m:=9) nofun hla al z2 a1 a2 a3 (λΔ1 H2 i1 z3=>⟨rfl,?_⟩);left;refine fW rfl i1 z3 (λp1 H3 l1 z4=>?_);left;intro x2 y2 a1 a2 a3;refine fY (k:=k-1) (n:=1) (m:=9) nofun li l1 z4 a1 a2 a3 (λΔ2 H4 i2 z5=>⟨rfl,?_⟩);left;refine fW rfl i2 z5 (λp2 H5 l2 z6=>?_);left;have ok9:(0:Int)<=9/\(9:Int)<=9:=⟨by decide,by decide⟩;refine eB ro (k:=k-1) (n:=2) (ns:=cs.map (·.1)) (b:=[.tms 9 [.tms 9 bl]]) (B:=B) (dx:=dx) (d1:=d1) (d2:=d2) (kb:=kb) (cs:=cs) (G:=hand h (m+((6:Nat):Int))::pt dx (.own B)::O) nofun hkb (λw h=>h) ⟨by show 1<=30;omega,λi hi=>?_⟩ ⟨p2,_,rfl,li,l2⟩ z6 (λH6 z7=>?_)
  .rw[mem_singleton.mp hi];refine⟨ok9,by show 1<=30;omega,λi hi=>?_⟩;rw[mem_singleton.mp hi];exact⟨ok9,okl⟩
  .have ec:c5 (a7 cs) 2 [.tms 9 [.tms 9 bl]]=81*c:=by
    show 9*(9*(bl.map (mV (a7 cs) 0)).sum+0)+0=81*c;have:(bl.map (mV (a7 cs) 0)).sum=c:=hcn
    omega
   rw[ec];left;refine⟨.inl ⟨by decide,by decide⟩,?_⟩;left;refine iW rfl rfl ?_;rw[if_neg (by decide),dC rfl];exact q _
end
section
variable {F:List ag}{h nd cd hl wl B dx d1 d2:Addr}{o:Obj}{kvs kb:List (Key×V)}{cs:List (Str×Int)}{N:List (Str×List Itm)}{m:Int}
abbrev gJ (F:List ag)(ns:List Str)(ls:List V):Prop:=∀ v ∈ ls,∃ b,gC F 3 v b/\jv ns 3 b/\b.length<=29
def gJ.mono {F':List ag}{ns':List Str}{ls:List V}(hh:gJ F ns ls)(up:∀ A ∈ F,A ∈ F') (un:∀ w ∈ ns,w ∈ ns'):gJ F' ns' ls:=λv hv=>let⟨b,s,ok,hb⟩:=hh v hv;⟨b,gC.mono up s,⟨ok.1,λi hi=>kN.mono un (ok.2 i hi)⟩,hb⟩
abbrev qF (R:Rt)(h nd cd hl B dx d1 d2:Addr)(o:Obj)(kvs kb:List (Key×V))(cs:List (Str×Int))(F:List ag)(m:Int)(sc:V)(j:Nat)(U:St)(H:Hp):Prop:=∃ u6 u7 u8,U=[some sc,some (sK h),some (sK nd),some (sK B),some (sK cd),some (sK hl),u6,u7,u8,none]/\
 ∃ ls Δ,ls.length=j/\gJ (Δ++F) (cs.map (·.1)) ls/\Sep (bg R B dx d1 d2 kb cs (pt cd (.dK (aD cs))::([pt nd (.aP o (.dK kvs)),hand h (m+(j:Int)*1000000001),pt hl (v4 ls)]++(Δ++F)))) H
def we {E:St->XK}{sc:V}{j:Nat}(ro:Ro K R)(hk:18<=k)(hj:j<6)(hm:m<=200000000)(hkeys:kvs.map (λkv=>kV kv.1)=(cs.map (·.1)).map ul) (hcl:cs.length<=5) (hkb:kb.map (·.1)=a8 (cs.map (·.1))) (hI:qF R h nd cd hl B dx d1 d2 o kvs kb cs F m sc j U H) (q:∀ σ' H',qF R h nd cd hl B dx d1 d2 o kvs kb cs F m sc (j+1) σ' H'->D.nx σ' H'):
  wB (nE (bY 5 lO.body)) ⟨tab,R,ae tab R (k-1),true⟩ D E (U.set 6 (some (tz (0+(j:Int))))) H:=by
 have hb3:d7 3=1000000000:=by decide
 obtain⟨u6,u7,u8,rfl,ls,Δ,hll,hh,z⟩:=hI;have z:Sep (hand h (m+(j:Int)*1000000001)::bg R B dx d1 d2 kb cs (pt cd (.dK (aD cs))::pt nd (.aP o (.dK kvs))::pt hl (v4 ls)::(Δ++F))) H:=z.pull (.j2 (.j2 .k1));walk_at "gd";rename_i p H1 z1 r H2 r0 r1 z2;obtain⟨v,e1,i,rfl,i0,i1⟩:=jL (xs:=[tz 2,tz 5,tz 23]) (P:=inR 0 23) (r:=r) r0 (by simpa using r1) (Bb (.mk nofun nofun) (.mk nofun nofun) (.mk nofun nofun));refine bP (z2.get .k1) e1 ?_;have z3:=(z2.pull .k1).drop;clear z z1 z2;left;refine⟨rfl,?_⟩;left;refine dE rfl z3 (.inr ⟨o,z3.get (.t (.j2 (.j2 .e)))⟩) (λT H3 z4=>?_);rw[hkeys]at z4;left;have z5:Sep (hand h (m+(j:Int)*1000000001+1)::pt T (v4 ((cs.map (·.1)).map ul))::(bg R B dx d1 d2 kb cs [pt cd (.dK (aD cs)),pt nd (.aP o (.dK kvs)),pt hl (v4 ls)]++(Δ++F))) H3:=z4.pull .k1;refine kY ro 3 (k:=k-1) nofun ⟨by omega,by omega⟩ (by rw[hb3];omega) (by rw[ce];omega) z5 (λl b Δ1 H4 ok hlb s z6=>?_);rw[hb3]at z6;have z6:Sep (hand h (m+(j:Int)*1000000001+1+1000000000)::bg R B dx d1 d2 kb cs (pt cd (.dK (aD cs))::pt nd (.aP o (.dK kvs))::pt hl (v4 ls)::(Δ1++(Δ++F)))) H4:=(z6.pull .k1).drop;have z7:Sep (bg R B dx d1 d2 kb cs (pt cd (.dK (aD cs))::([hand h (m+(j:Int)*1000000001+1+1000000000),pt nd (.aP o (.dK kvs)),pt hl (v4 ls)]++(Δ1++(Δ++F))))) H4:=z6.sub (.cons .k1 (.cons .k1 (.cons .k1 (.cons .k1 .refl))));left;refine⟨rfl,?_⟩;left;refine jq ro (k:=k-1) (n:=3) nofun (by decide) hkb (λw h=>h) ok nofun s z7 (λΔ2 H5 z8=>?_);left;refine aq rfl ?_;left;have z8:Sep (bg R B dx d1 d2 kb cs (pt cd (.dK (aD cs))::hand h (m+(j:Int)*1000000001+1+1000000000)::pt nd (.aP o (.dK kvs))::pt hl (v4 ls)::(Δ2++(Δ1++(Δ++F))))) H5:=z8;refine⟨hl,ls,rfl,z8.get (.j2 (.j2 (.j2 .e))),?_⟩;left;refine⟨ls,z8.get (.j2 (.j2 (.j2 .e))),gF z8 (.j2 (.j2 (.j2 .e))) nofun (λH6 z9=>?_)⟩;left;have eD:Δ2++(Δ1++(Δ++F))=(Δ2++(Δ1++Δ))++F:=by simp only[le]
 refine q _ _ ⟨_,_,_,rfl,ls++[sK l],Δ2++(Δ1++Δ),by rw[ci,hll];rfl,?_,?_⟩
 .intro v hv;rw[<-eD];rcases mem_append.mp hv with hv|hv
  .exact hh.mono (λA h=>ay (ay h)) (λw h=>h) v hv
  .rw[mem_singleton.mp hv];exact⟨b,gC.mono (λA h=>ay h) s,ok,by omega⟩
 .rw[<-eD];have e1:m+((j+1:Nat):Int)*1000000001=m+(j:Int)*1000000001+1+1000000000:=by omega
  rw[e1];exact z9.sub (.cons .e (.cons .e (.cons .e (.cons .e (.cons .k1 (.cons .e .refl))))))
end
def vL (ro:Ro K R)(hk:19<=k):∀ vs H Q E,eG K 63 vs H Q E->ae tab R k 45 vs H Q E:=by
 rintro vs H Q E ⟨a,sc,rfl,hS,h63,hQ⟩;delta lO;right;rw[<-ro.hK]at hS;refine wJ nofun Sep.nil hS h63 (λh H1 z1=>?_);left;refine⟨rfl,?_⟩;left;refine oZ ro (k:=k-1) (G:=[]) (F:=[]) nofun (by decide) (by decide) (by decide) z1 (λnd kvs N Δ H2 hR hn h5 z2=>?_);left;refine⟨rfl,?_⟩;left;refine tM ro (k:=k-1) (G:=[hand h (0+100000000)]) (F:=Δ++[]) nofun hR hn h5 (z2.pull .k1) (λB dx d1 d2 kb o Δ1 H3 hkb _ z3=>?_);left;refine⟨rfl,?_⟩;left;have hcn:=dh N;have hkb:kb.map (·.1)=a8 ((cf N).map (·.1)):=by rw[hcn];exact hkb
 refine ot ro (k:=k-1) (G:=[pt B (wf (R.cad 13) dx [("blocks",sK d1),("counts",sK d2)]),pt d1 (.dK kb),pt d2 (.dK (aD (cf N))),hand h (0+100000000)]) (F:=Δ1++(Δ++[])) nofun (hR.mono λA=>ay) hn h5 (z3.pull .k3) (λcd H4 z4=>?_);have hcl:(cf N).length<=5:=by
  have:=congrArg List.length hcn;rw[ce,ce]at this
  omega
 have hkeys:kvs.map (λkv=>kV kv.1)=((cf N).map (·.1)).map ul:=by
  have:=congrArg (List.map kV) hR.1;unfold a8 at this;rw[List.map_map,List.map_map]at this;rw[hcn];exact this
 generalize cf N=cs at hkb hcl hkeys z3 z4;generalize Δ1++(Δ++[])=F at z3 z4;clear z1 z2 z3;left;refine il z4 (by decide) (λhl H5 z5=>?_);right;refine fw (λj U H=>qF R h nd cd hl B dx d1 d2 o kvs kb cs F 100000000 (sK a) j U H) ⟨_,_,_,rfl,[],[],rfl,λv hv=>(by cases hv),?_⟩ (λj U H hj hI=>?_) (λU H hI=>?_)
 .have z6:Sep (pt hl (v4 [])::pt cd (.dK (aD cs))::pt nd (.aP o (.dK kvs))::pt B (wf (R.cad 13) dx [("blocks",sK d1),("counts",sK d2)])::pt d1 (.dK kb)::pt d2 (.dK (aD cs))::hand h (0+100000000)::F) H5:=z5;exact z6.sub (.cons .k3 (.cons .k3 (.cons .k3 (.cons .k1 (.cons .k1 (.cons .k1 .refl))))))
 .left;exact we (k:=k) ro nofun hj (by decide) hkeys hcl hkb hI (λσ' H' h=>h)
 .obtain⟨u6,u7,u8,rfl,ls,Δ2,hll,hh,z6⟩:=hI;clear z5;have z7:Sep (hand h (100000000+((6:Nat):Int)*1000000001)::bg R B dx d1 d2 kb cs (pt cd (.dK (aD cs))::pt nd (.aP o (.dK kvs))::pt hl (v4 ls)::(Δ2++F))) H:=z6.pull (.j2 (.j2 .k1));clear z6;left;refine⟨rfl,?_⟩;left;refine dE rfl z7 (.inr ⟨o,z7.get (.t (.j2 (.j2 .e)))⟩) (λT H6 z8=>?_);rw[hkeys]at z8;left;refine g6 ro (k:=k-1) nofun (by rw[ce];omega) (by decide) (z8.pull .k1) (λw H7 hw hwn z9=>?_);have z9:=(z9.pull .k1).drop;clear z7 z8;left;refine⟨rfl,?_⟩;left;refine⟨_,13,_,_,_,rfl,z9.get .k1,rfl,rfl,?_⟩;left;obtain⟨v0,hv0⟩:∃ v0,ls[0]? =some v0:=⟨_,lf nofun⟩;have e0:eP ls 0=some v0:=L2.dw (xs:=ls) (j:=0) hv0;obtain⟨b0,s0,ok0,hb0⟩:=hh v0 (cr hv0);refine⟨rfl,?_⟩;left;refine bP (z9.get (.j2 (.j2 (.j2 .e)))) e0 ?_;refine mD ro 3 (k:=k-1) (F:=Δ2++F) (G:=[_,_,_,_,_,_,_]) nofun ok0 s0 z9 (λp Δ3 H8 im z10=>?_);left;have z10:Sep (hand h (100000000+((6:Nat):Int)*1000000001+12)::bg R B dx d1 d2 kb cs (pt cd (.dK (aD cs))::pt nd (.aP o (.dK kvs))::pt hl (v4 ls)::(Δ3++(Δ2++F)))) H8:=z10;have z11:Sep (bg R B dx d1 d2 kb cs ([hand h (100000000+((6:Nat):Int)*1000000001+12),pt cd (.dK (aD cs)),pt nd (.aP o (.dK kvs)),pt hl (v4 ls)]++(Δ3++(Δ2++F)))) H8:=z10.sub (.cons .k1 (.cons .k1 (.cons .k1 .refl)));refine lq ro (k:=k-1) (n:=3) (ns:=cs.map (·.1)) nofun hw hkb nofun hwn (λw h=>h) ok0 im z11 (λl' vs H9 _ z12=>?_);have z12:=(z12.pull .k3).drop;generalize hkb':kb++[(Sum.inr w,sK l')]=kb' at z12;have hbc:kb'.map (·.1)=a8 ((cs++[(w,c5 (a7 cs) 3 b0)]).map (·.1)):=by
   rw[<-hkb',dL,hkb,dL];unfold a8;rw[dL]
   rfl
  clear z9 z10 z11;left;refine⟨rfl,?_⟩;left;have z13:Sep (pt cd (.dK (aD cs))::([pt B (wf (R.cad 13) dx [("blocks",sK d1),("counts",sK d2)]),pt d1 (.dK kb'),pt d2 (.dK (aD (cs++[(w,c5 (a7 cs) 3 b0)]))),hand h (100000000+((6:Nat):Int)*1000000001+12),pt nd (.aP o (.dK kvs)),pt hl (v4 ls)]++(Δ3++(Δ2++F)))) H9:=z12.pull (.j2 (.j2 .e));refine bP (z13.get (.j2 (.j2 (.j2 .e)))) e0 ?_;refine ml ro (λw h=>h) 3 (k:=k-1) nofun ok0 (gC.mono (λA=>ay) s0) z13 (λH10 z14=>?_);left;refine jO (k:=.inr w) z14 .e (by unfold aD;rw[ce];omega) (dr (by rw[gh,aL];exact hwn)) (λH11 z15=>?_);have ek:aD cs++[(.inr w,tz (c5 (a7 cs) 3 b0))]=aD (cs++[(w,c5 (a7 cs) 3 b0)]):=by unfold aD;rw[dL];rfl
  rw[ek]at z15;have hwm:w ∈ (cs++[(w,c5 (a7 cs) 3 b0)]).map (·.1):=by
   rw[dL];exact ii _ li
  have hh2:gJ (Δ3++(Δ2++F)) ((cs++[(w,c5 (a7 cs) 3 b0)]).map (·.1)) ls:=hh.mono (λA=>ay) (λx hx=>by rw[dL];exact mem_append_left _ hx);clear z12 z13 z14;generalize cs++[(w,c5 (a7 cs) 3 b0)]=cs' at*;have z16:Sep (pt cd (.dK (aD cs'))::pt B (wf (R.cad 13) dx [("blocks",sK d1),("counts",sK d2)])::pt d1 (.dK kb')::pt d2 (.dK (aD cs'))::hand h (100000000+((6:Nat):Int)*1000000001+12)::pt nd (.aP o (.dK kvs))::pt hl (v4 ls)::(Δ3++(Δ2++F))) H11:=z15;clear z15;right;rename_i p7 H17 y7 p6 H16 y6 p5 H15 y5 p4 H14 y4 p3 H13 y3 p2 H12 y2 p1 H18 y1 p0 H19 y0;clear z16 y7 y6 y5 y4 y3 y2 y1;refine vx y0 (y0.get (.j2 (.j2 (.j2 (.j2 (.j2 (.j2 (.j2 .e)))))))) y0.at (by rw[hll];show 6+3<=100000;omega) (λwl H20 zw=>?_);clear y0;generalize eF:pt p1 (v4 [sK p2])::tu p2 [ul "times",tz 9,sK p3]::pt p3 (v4 [sK p4])::tu p4 [ul "do",ul w]::pt p5 (v4 [sK p6])::tu p6 [ul "do",ul w]::pt p7 (v4 [])::(Δ3++(Δ2++F))=Fz;have zt:=Sep.yw (zw.get (.j2 .k1)) (Sep.yw (zw.get (.j2 (.j2 .k1))) (Sep.yw (zw.get (.j2 (.j2 (.j2 .k1)))) zw));have z17:Sep (bg R B dx d1 d2 kb' cs' (pt cd (.dK (aD cs'))::([hand h (100000000+((6:Nat):Int)*1000000001+12),pt wl (v4 (ls++[sK p7,sK p5,sK p1]))]++Fz))) H20:=by
   rw[<-eF];exact zt.sub (by ac_nf)
  have hh3:gJ Fz (cs'.map (·.1)) (ls++[sK p7,sK p5,sK p1]):=by
   intro v hv;rcases mem_append.mp hv with hv|hv
   .refine hh2.mono (λA hA=>?_) (λw h=>h) v hv;rw[<-eF];exact ii [_,_,_,_,_,_,_] hA
   .simp only[lv,not_mem_nil,or_false]at hv;rw[<-eF];rcases hv with rfl|rfl|rfl
    .exact⟨[],⟨p7,[],rfl,by simp,.nil⟩,⟨by decide,λi hi=>(by cases hi)⟩,by decide⟩
    .refine⟨[.dO w],⟨p5,[sK p6],rfl,by simp,cL.snoc (α:=Itm) (i:=.dO w) cL.nil ⟨p6,rfl,by simp⟩⟩,⟨by show 1<=30;omega,λi hi=>?_⟩,by show 1<=29;omega⟩;rw[mem_singleton.mp hi];exact hwm
    .refine⟨[.tms 9 [.dO w]],⟨p1,[sK p2],rfl,by simp,cL.snoc (α:=Itm) (i:=.tms 9 [.dO w]) cL.nil ⟨p2,p3,[sK p4],rfl,by simp,by simp,cL.snoc (α:=Itm) (i:=.dO w) cL.nil ⟨p4,rfl,by simp⟩⟩⟩,⟨by show 1<=30;omega,λi hi=>?_⟩,by show 1<=29;omega⟩;rw[mem_singleton.mp hi];refine⟨⟨by decide,by decide⟩,by show 1<=30;omega,λi hi=>?_⟩;rw[mem_singleton.mp hi];exact hwm
  clear zt zw;left;refine lC (z17.get (.j2 (.j2 .k1))) ?_;refine ft (xs:=ls++[sK p7,sK p5,sK p1]) (λj U H=>∃ u8,U=[some (sK a),some (sK h),some (sK nd),some (sK B),some (sK cd),some (sK hl),u6,u7,u8,some (ul w)]/\∃ Δ,Sep (bg R B dx d1 d2 kb' cs' (pt cd (.dK (aD cs'))::([hand h (100000000+((6:Nat):Int)*1000000001+12),pt wl (v4 (ls++[sK p7,sK p5,sK p1]))]++(Δ++Fz)))) H) ⟨_,rfl,[],z17⟩ ?_ ?_ ?_
  .rintro j U H ⟨u8,rfl,Δ,z⟩;exact aA.of (z.get (.j2 (.j2 .k1)))
  .rintro j x U H hx ⟨u8,rfl,Δ,z⟩;obtain⟨b,s,ok,hb⟩:=hh3 x (cr hx);left;refine⟨rfl,?_⟩;left;refine jq ro (k:=k-1) (n:=3) (F:=Δ++Fz) nofun (by decide) hbc (λw h=>h) ok hb (gC.mono (λA=>ay) s) z (λΔ4 H21 z18=>?_);left;refine aq rfl ?_;left;exact⟨_,rfl,Δ4++Δ,by rw[le];exact z18⟩
  .rintro U H ⟨u8,rfl,Δ,z⟩;left;refine⟨rfl,?_⟩;left;exact oH ro (k:=k-1) nofun (by decide) (z.pull (.j2 (.j2 .e))) hQ
def oB (ro:Ro K R):∀ vs H Q E,eG K 63 vs H Q E->ae tab R 19 45 vs H Q E:=vL ro (ol _)
end
def walk {l:W.OpenLaw}{q:Program}{loose:List Str}{XP:(Str->Option Value)->Heap->Prop}{YP:World->Heap->Prop}{d:DefRec}{K:Params->W.Frag}(hn:l.most=some 63)(hdf:d.params.defaults=[])
    (hY:∀ (w:World) (h:Heap),YP w h->(K w.params).In h)
    (F:∀ (w:World) (mg:CF) (fa:Addr) (h:Heap),(K w.params).In h->h.Ns mainGlobals mg->mg d.name=some (.ref fa)->
      ∃ fd:FuncData,(∀ (s:Shared) (u:Value),BindsTo s fd ⟨[u],[]⟩ [("_law_script",u)])/\∀ base:Heap,(K w.params).In base->base.Ns mainGlobals mg->bI l.prog w (K w.params) mg base (qY l.prog w) 38 fa fd ["_law_script"] (eG (K w.params) 63)):
    W.WalkO q loose XP YP l.row.toRowW d [] (λf vs=>PySem.call f vs):=
  L2.sG (n:=63) (k:=38) (x:="_law_script") (CX:=λw=>qY l.prog w) (sp:=λw=>eG (K w.params) 63) hn (by decide) hdf ⟨rfl,by decide,by decide⟩ hY F (λ_ _ a ns hl _ hS=>⟨a,ns,rfl,hS,hl,λ_=>rfl⟩) λ_ _ _ _ _ z=>qD z
abbrev BU:List (Str×V):=[("BOUND",.int 1000000000),("MOST_HOPPED",.int 24),("LONGEST_NAME",.int 8),("LETTERS",.str "abcdefghijklmnopqrstuvwxyz"),("NAMES",.ref 80)]
def Cn (p:Params):L3.uJ (K0 p) tab Bl B0 BU=true:=by kernel_rfl
def B6 (p:Params):L3.gr (K0 p) tab Bl 0 tab.fns=true:=by kernel_rfl
end My
open PySem PySem.W PyProof.Rows
set_option maxRecDepth 100000 in
set_option maxHeartbeats 0 in
theorem PySem.Challenge.cw_haulbell_k61_counts_holds : PySem.Challenge.rw_haulbell_k61_counts.Holds := by
  refine holds_law My.zk fun said=>?_
  refine W.holds_open (loose:=My.rM) (N:=13358)
    (q:=My.jw My.pr)
    (Yf:=fun s=>My.Av.map s.heap.get?)
    (Ya:=fun w=>(My.K0 w.params).map fun p=>some p.2)
    (Xt:=fun s=>xlAt (My.jw My.pr) [] s&&recOk PySem.Challenge.rw_haulbell_k61_counts.row.records s)
    (XP:=XL (My.jw My.pr) [])
    (YP:=InK My.K0) My.zC
    (InK.of (as:=My.Av) fun _=>by kernel_rfl) InK.keeps
    (fun s e=>xl_of s (Bool.and_eq_true_iff.mp e).1)
    XL.keeps (by rfl) (by rfl) (by rfl)
    (fun s e=>recFacts_of (Bool.and_eq_true_iff.mp e).2)
    (by rfl) (by assumption) (by decide+kernel)
    ⟨rfl,rfl,rfl,rfl,rfl,by decide+kernel⟩ ?hw ?hc
  case hw=>w_witness2
  refine My.walk (l:=PySem.Challenge.rw_haulbell_k61_counts) rfl rfl (fun w h Y=>Y) ?F
  case F=>
    intro w mg fa h KX G hmg;exact L3.tF KX G hmg (T:=My.tab) (fs:=My.Bl) (cs:=My.B0) (gs:=My.BU) (d:=My.lO) (fl:=45) (k:=19) (My.Cn _) (My.B6 _) (by kernel_rfl) rfl rfl rfl (My.oB ⟨rfl,by kernel_rfl,by kernel_rfl,by kernel_rfl,by kernel_rfl,⟨80,by kernel_rfl,L3.yl (by kernel_rfl)⟩⟩)
