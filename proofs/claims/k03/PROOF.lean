import PyProof.Rows.All
import Wide.All
import OpenK.AllK
import Wide.FinOn
import Lean
import PyProof.EqAt
import PyProof.EqKinds
import PyProof.TupleCall
import PyProof.P3Eq
import PyProof.NeData
import PyProof.FitsBits
import PyProof.ZipIter
import PyProof.TupleIter
import KE.KRevIter
import PyProof.TupleOfGen
import PyProof.ListRange
import KE.KIsAll
import PyProof.ExcArgsOwn
import OpenK.KDescr
import PyProof.StationsW
import PyProof.ExcBaseAll.ValueError
import OpenK.KOwn
import PyProof.RulesAs
import PyProof.RulesDel
import PyProof.Rows.SortWalk
import PyProof.CompUse
import KE.KDictSum
import PyProof.WalkInts
import KE.KSortTup
import PyProof.Rows.TupDisplay
import KE.KIntText
import PyProof.JoinWalk
import PyProof.ExcInit
import PyProof.ExcClass2
import PySem.Challenge.RW_pebbletoll_k03_webs_refused
set_option Elab.async false
set_option linter.all false
set_option maxRecDepth 100000
namespace Hd
open PySem
def top (i:Nat):Stmt:=PySem.Challenge.pw_pebbletoll_k03_webs_refused.main.body.getD i (.Pass ⟨0,0,0,0⟩)
def inC (s:Stmt) (j:Nat):Stmt:=match s with
 | .ClassDef _ _ _ b _ _ _ _ _ _ _=>b.getD j (.Pass ⟨0,0,0,0⟩)
 | _=>.Pass ⟨0,0,0,0⟩
def kA (s:Stmt):Arguments:=match s with
 | .FunctionDef _ a _ _ _ _ _ _ _ _=>a
 | _=>{ posonlyargs:=[],args:=[],vararg:=none,kwonlyargs:=[],kw_defaults:=[],kwarg:=none,defaults:=[] }
def kB (s:Stmt):List Stmt:=match s with
 | .FunctionDef _ _ b _ _ _ _ _ _ _=>b
 | _=>[]
def kS (s:Stmt):Scope:=match s with
 | .FunctionDef _ _ _ _ _ _ sc _ _ _=>sc
 | _=>{ kind:=.function,names:=[],isGenerator:=false,isCoroutine:=false }
open PySem.W PySem.Calls PyProof.Rows
def en (P:Params) (s:Str) (t:Tok) (v:Value):DictEntry:=.mk (PyData.keyHash P s) (.str s t) v
def cO (a b:Str) (t1 t2 t3:Tok) (i1 i2 i3 i4 i5:Int) (r1:Value) (b1:Bool) (i6:Int) (r2 v1 v2 v3 r3:Value) (i7 i8:Int) (t4:Tok):Obj:=.mk (.type "code") none (.fields #[.str a t1,.str b t2,.str "/claim/cut.py" t3,.int i1 0,.int i2 0,.int i3 0,.int i4 0,.int i5 0,r1,.bool b1,.int i6 0,r2,v1,v2,v3,r3,.int i7 0,.int i8 0,.str "/claim/cut.py" t4]) #[]
def fR (a b:Str) (s:Stmt):Obj:=.mk .none none (.func (.mk a b (kA s) (.stmts (kB s)) (kS s) 0 [] .none .none .none .none none .none .none 0)) #[]
def fO (a b:Str) (s:Stmt) (pm cd:Value):Obj:=.mk (.type "function") none (.func (PySem.W.fnOf a b (kA s) (kB s) (kS s) .none .none .none pm none cd .none)) #[]
def tO (xs:Array Value):Obj:=.mk (.type "tuple") none (.seq xs 0) #[]
def x0:Obj:=(tO #[])
def x1:Obj:=(.mk .none none (.fields #[]) #[])
def x2:Obj:=(cO "<module>" "<module>" 182 183 184 1 0 0 0 0 (.ref 11) false 181 (.ref 12) .none .none .none .none 185 1 186)
def x3:Obj:=(.mk (.type "frame") none .plain #[(some (.ref 13)),(some (.ref 3)),(some (.ref 3)),none,(some (.str "__main__" 164)),none,(some (.ref 0))])
noncomputable def ha (P:Params):Heap:=.mk (.mk (boot_o_0 P::boot_o_1 P::boot_o_2 P::boot_o_3 P::boot_o_4 P::boot_o_5 P::boot_o_6 P::boot_o_7 P::boot_o_8 P::boot_o_9 P::boot_o_10 P::x0::x1::x2::x3::[])) (.mk [] [] [] 0 [] [] false #[] [] 0 false false false 0 [2000,10,10] false 0 true [] [] 0 false)
noncomputable def hb (P:Params):Heap:=.mk (.mk (boot_o_0 P::boot_o_1 P::boot_o_2 P::boot_o_3 P::boot_o_4 P::boot_o_5 P::boot_o_6 P::boot_o_7 P::boot_o_8 P::boot_o_9 P::boot_o_10 P::x0::x1::x2::x3::[])) (.mk [] [] [] 0 [] [] false #[] [] 0 false false false 0 [2000,10,10] false 0 true [] [] 0 false)
abbrev st0:List Stmt:=[top 0,top 1,top 2,top 3,top 4,top 5,top 6,top 7,top 8,top 9]
abbrev st1:List Stmt:=[top 10,top 11,top 12,top 13,top 14,top 15,top 16,top 17,top 18,top 19,top 20,top 21,top 22,top 23,top 24,top 25,top 26,top 27,top 28,top 29,top 30,top 31,top 32,top 33,top 34,top 35,top 36,top 37,top 38,top 39]
abbrev bb:List Stmt:=st0++(st1++([]))
def env:Env:={ scope:=PySem.Challenge.pw_pebbletoll_k03_webs_refused.main.scope,locals:=mainNs,globals:=mainNs,cells:=[],code:=(.ref 13),frame:=some 14 }
abbrev cE:Code:=.body bb env
theorem Eo (w:World) (os:OsState):topGo treeTable PySem.Challenge.pw_pebbletoll_k03_webs_refused w 11 (some (.ref 6)) 12 (Shared.mk (boot_heap w.params) (.mk []) boot_drawn boot_toks os) (topStub PySem.Challenge.pw_pebbletoll_k03_webs_refused)=some ((Shared.mk (ha w.params) (.mk []) (.mk 0 0 0 0) 187 os),Thread.mk (denote treeTable cE) cE (.mk 0 0 0 0) [topFrame (.mk 0 0 0 0)]):=by kernel_rfl
theorem EA (w:World) (os:OsState):segRun treeTable PySem.Challenge.pw_pebbletoll_k03_webs_refused w 11 (some (.ref 6)) 1 1 (Shared.mk (ha w.params) (.mk []) (.mk 0 0 0 0) 187 os) (blockOf bb env cE (.mk 0 0 0 0) [topFrame (.mk 0 0 0 0)])=some (.next,(Shared.mk (hb w.params) (.mk []) (.mk 0 0 0 0) 187 os),cE,(.mk 0 0 0 0)):=by kernel_rfl
def x4 (P:Params):Obj:=(.mk (.type "dict") none (.dict #[(en P "__name__" 165 (.str "pebbletoll.errors" 187)),(en P "__doc__" 166 .none),(en P "__package__" 167 .none),(en P "__loader__" 168 (.builtin "__main__.__loader__#opaque")),(en P "__spec__" 169 .none),(en P "__annotations__" 170 (.ref 6)),(en P "__builtins__" 171 (.ref 4)),(en P "__file__" 173 (.str "/claim/cut.py" 172)),(en P "__cached__" 174 .none),(en P "TollError" 206 (.ref 24)),(en P "BadWeb" 222 (.ref 37)),(en P "NoPlace" 238 (.ref 49)),(en P "NoRoad" 254 (.ref 61)),(en P "BadLaying" 270 (.ref 73)),(en P "BadWish" 286 (.ref 85)),(en P "TooMany" 302 (.ref 97)),(en P "NoNumber" 318 (.ref 109)),(en P "NoWorst" 334 (.ref 121))] 18) #[])
def x5:Obj:=(.mk .none none (.fields #[(.int 2 0),(.int 0 0),(.ref 20),(.int 4 0),(.int 0 0),(.ref 33),(.int 6 0),(.int 0 0),(.ref 45),(.int 8 0),(.int 0 0),(.ref 57),(.int 10 0),(.int 0 0),(.ref 69),(.int 12 0),(.int 0 0),(.ref 81),(.int 14 0),(.int 0 0),(.ref 93),(.int 16 0),(.int 0 0),(.ref 105),(.int 18 0),(.int 0 0),(.ref 117)]) #[])
def x6:Obj:=(tO #[(.type "ValueError")])
def x7:Obj:=(.mk (.type "builtin_function_or_method") none (.fields #[(.builtin "type.__prepare__"),(.type "type")]) #[])
def x8 (P:Params):Obj:=(.mk (.type "dict") none (.dict #[(en P "__module__" 196 (.str "pebbletoll.errors" 187)),(en P "__qualname__" 198 (.str "TollError" 197)),(en P "__firstlineno__" 200 (.int 2 199)),(en P "__static_attributes__" 201 (.ref 22))] 4) #[])
def x9:Obj:=(cO "TollError" "TollError" 191 192 193 2 0 0 0 0 (.ref 18) false 181 (.ref 19) .none .none .none .none 194 2 195)
def x10:Obj:=(.mk (.type "frame") none .plain #[(some (.ref 20)),(some (.ref 3)),(some (.ref 17)),none,(some (.str "pebbletoll.errors" 187)),none,(some (.ref 0))])
def x11 (P:Params):Obj:=(.mk (.type "dict") none (.dict #[(en P "__module__" 196 (.str "pebbletoll.errors" 187)),(en P "__firstlineno__" 200 (.int 2 199)),(en P "__static_attributes__" 201 (.ref 22)),(en P "__weakref__" 203 (.ref 25)),(en P "__doc__" 204 .none)] 3) #[])
def x12:Obj:=(.mk (.type "type") none (.cls (.mk "TollError" [(.type "ValueError")] [(.ref 24),(.type "ValueError"),(.type "Exception"),(.type "BaseException"),(.type "object")] 23 "TollError" true [] [(.ref 37),(.ref 49),(.ref 61),(.ref 73),(.ref 85),(.ref 97),(.ref 109),(.ref 121)] false none false)) #[(some (.ref 15)),none,(some (.str "TollError" 189)),(some (.str "TollError" 197)),(some (.builtin "ValueError.__new__")),(some (.bool true))])
def x13:Obj:=(.mk (.type "getset_descriptor") none (.fields #[(.str "__weakref__" 202),(.ref 24),(.builtin "ExceptionGroup.__weakref__"),.none]) #[])
def x14:Obj:=(.mk (.type "super") none (.fields #[(.ref 24),(.ref 24),(.ref 24)]) #[])
def x15:Obj:=(.mk (.type "builtin_function_or_method") none (.fields #[(.builtin "object.__init_subclass__"),(.ref 24)]) #[])
def x16:Obj:=(tO #[(.ref 24)])
def x17 (P:Params):Obj:=(.mk (.type "dict") none (.dict #[(en P "__module__" 214 (.str "pebbletoll.errors" 187)),(en P "__qualname__" 216 (.str "BadWeb" 215)),(en P "__firstlineno__" 218 (.int 4 217)),(en P "__static_attributes__" 219 (.ref 35))] 4) #[])
def x18:Obj:=(cO "BadWeb" "BadWeb" 209 210 211 4 0 0 0 0 (.ref 31) false 181 (.ref 32) .none .none .none .none 212 4 213)
def x19:Obj:=(.mk (.type "frame") none .plain #[(some (.ref 33)),(some (.ref 3)),(some (.ref 30)),none,(some (.str "pebbletoll.errors" 187)),none,(some (.ref 0))])
def x20 (P:Params):Obj:=(.mk (.type "dict") none (.dict #[(en P "__module__" 214 (.str "pebbletoll.errors" 187)),(en P "__firstlineno__" 218 (.int 4 217)),(en P "__static_attributes__" 219 (.ref 35)),(en P "__doc__" 220 .none)] 2) #[])
def x21:Obj:=(.mk (.type "type") none (.cls (.mk "BadWeb" [(.ref 24)] [(.ref 37),(.ref 24),(.type "ValueError"),(.type "Exception"),(.type "BaseException"),(.type "object")] 36 "BadWeb" true [] [] false none false)) #[(some (.ref 28)),none,(some (.str "BadWeb" 207)),(some (.str "BadWeb" 215)),(some (.builtin "ValueError.__new__")),(some (.bool true))])
def x22:Obj:=(.mk (.type "super") none (.fields #[(.ref 37),(.ref 37),(.ref 37)]) #[])
def x23:Obj:=(.mk (.type "builtin_function_or_method") none (.fields #[(.builtin "object.__init_subclass__"),(.ref 37)]) #[])
def x24 (P:Params):Obj:=(.mk (.type "dict") none (.dict #[(en P "__module__" 230 (.str "pebbletoll.errors" 187)),(en P "__qualname__" 232 (.str "NoPlace" 231)),(en P "__firstlineno__" 234 (.int 6 233)),(en P "__static_attributes__" 235 (.ref 47))] 4) #[])
def x25:Obj:=(cO "NoPlace" "NoPlace" 225 226 227 6 0 0 0 0 (.ref 43) false 181 (.ref 44) .none .none .none .none 228 6 229)
def x26:Obj:=(.mk (.type "frame") none .plain #[(some (.ref 45)),(some (.ref 3)),(some (.ref 42)),none,(some (.str "pebbletoll.errors" 187)),none,(some (.ref 0))])
def x27 (P:Params):Obj:=(.mk (.type "dict") none (.dict #[(en P "__module__" 230 (.str "pebbletoll.errors" 187)),(en P "__firstlineno__" 234 (.int 6 233)),(en P "__static_attributes__" 235 (.ref 47)),(en P "__doc__" 236 .none)] 2) #[])
def x28:Obj:=(.mk (.type "type") none (.cls (.mk "NoPlace" [(.ref 24)] [(.ref 49),(.ref 24),(.type "ValueError"),(.type "Exception"),(.type "BaseException"),(.type "object")] 48 "NoPlace" true [] [] false none false)) #[(some (.ref 40)),none,(some (.str "NoPlace" 223)),(some (.str "NoPlace" 231)),(some (.builtin "ValueError.__new__")),(some (.bool true))])
def x29:Obj:=(.mk (.type "super") none (.fields #[(.ref 49),(.ref 49),(.ref 49)]) #[])
def x30:Obj:=(.mk (.type "builtin_function_or_method") none (.fields #[(.builtin "object.__init_subclass__"),(.ref 49)]) #[])
def x31 (P:Params):Obj:=(.mk (.type "dict") none (.dict #[(en P "__module__" 246 (.str "pebbletoll.errors" 187)),(en P "__qualname__" 248 (.str "NoRoad" 247)),(en P "__firstlineno__" 250 (.int 8 249)),(en P "__static_attributes__" 251 (.ref 59))] 4) #[])
def x32:Obj:=(cO "NoRoad" "NoRoad" 241 242 243 8 0 0 0 0 (.ref 55) false 181 (.ref 56) .none .none .none .none 244 8 245)
def x33:Obj:=(.mk (.type "frame") none .plain #[(some (.ref 57)),(some (.ref 3)),(some (.ref 54)),none,(some (.str "pebbletoll.errors" 187)),none,(some (.ref 0))])
def x34 (P:Params):Obj:=(.mk (.type "dict") none (.dict #[(en P "__module__" 246 (.str "pebbletoll.errors" 187)),(en P "__firstlineno__" 250 (.int 8 249)),(en P "__static_attributes__" 251 (.ref 59)),(en P "__doc__" 252 .none)] 2) #[])
def x35:Obj:=(.mk (.type "type") none (.cls (.mk "NoRoad" [(.ref 24)] [(.ref 61),(.ref 24),(.type "ValueError"),(.type "Exception"),(.type "BaseException"),(.type "object")] 60 "NoRoad" true [] [] false none false)) #[(some (.ref 52)),none,(some (.str "NoRoad" 239)),(some (.str "NoRoad" 247)),(some (.builtin "ValueError.__new__")),(some (.bool true))])
def x36:Obj:=(.mk (.type "super") none (.fields #[(.ref 61),(.ref 61),(.ref 61)]) #[])
def x37:Obj:=(.mk (.type "builtin_function_or_method") none (.fields #[(.builtin "object.__init_subclass__"),(.ref 61)]) #[])
def x38 (P:Params):Obj:=(.mk (.type "dict") none (.dict #[(en P "__module__" 262 (.str "pebbletoll.errors" 187)),(en P "__qualname__" 264 (.str "BadLaying" 263)),(en P "__firstlineno__" 266 (.int 10 265)),(en P "__static_attributes__" 267 (.ref 71))] 4) #[])
def x39:Obj:=(cO "BadLaying" "BadLaying" 257 258 259 10 0 0 0 0 (.ref 67) false 181 (.ref 68) .none .none .none .none 260 10 261)
def x40:Obj:=(.mk (.type "frame") none .plain #[(some (.ref 69)),(some (.ref 3)),(some (.ref 66)),none,(some (.str "pebbletoll.errors" 187)),none,(some (.ref 0))])
def x41 (P:Params):Obj:=(.mk (.type "dict") none (.dict #[(en P "__module__" 262 (.str "pebbletoll.errors" 187)),(en P "__firstlineno__" 266 (.int 10 265)),(en P "__static_attributes__" 267 (.ref 71)),(en P "__doc__" 268 .none)] 2) #[])
def x42:Obj:=(.mk (.type "type") none (.cls (.mk "BadLaying" [(.ref 24)] [(.ref 73),(.ref 24),(.type "ValueError"),(.type "Exception"),(.type "BaseException"),(.type "object")] 72 "BadLaying" true [] [] false none false)) #[(some (.ref 64)),none,(some (.str "BadLaying" 255)),(some (.str "BadLaying" 263)),(some (.builtin "ValueError.__new__")),(some (.bool true))])
def x43:Obj:=(.mk (.type "super") none (.fields #[(.ref 73),(.ref 73),(.ref 73)]) #[])
def x44:Obj:=(.mk (.type "builtin_function_or_method") none (.fields #[(.builtin "object.__init_subclass__"),(.ref 73)]) #[])
def x45 (P:Params):Obj:=(.mk (.type "dict") none (.dict #[(en P "__module__" 278 (.str "pebbletoll.errors" 187)),(en P "__qualname__" 280 (.str "BadWish" 279)),(en P "__firstlineno__" 282 (.int 12 281)),(en P "__static_attributes__" 283 (.ref 83))] 4) #[])
def x46:Obj:=(cO "BadWish" "BadWish" 273 274 275 12 0 0 0 0 (.ref 79) false 181 (.ref 80) .none .none .none .none 276 12 277)
def x47:Obj:=(.mk (.type "frame") none .plain #[(some (.ref 81)),(some (.ref 3)),(some (.ref 78)),none,(some (.str "pebbletoll.errors" 187)),none,(some (.ref 0))])
def x48 (P:Params):Obj:=(.mk (.type "dict") none (.dict #[(en P "__module__" 278 (.str "pebbletoll.errors" 187)),(en P "__firstlineno__" 282 (.int 12 281)),(en P "__static_attributes__" 283 (.ref 83)),(en P "__doc__" 284 .none)] 2) #[])
def x49:Obj:=(.mk (.type "type") none (.cls (.mk "BadWish" [(.ref 24)] [(.ref 85),(.ref 24),(.type "ValueError"),(.type "Exception"),(.type "BaseException"),(.type "object")] 84 "BadWish" true [] [] false none false)) #[(some (.ref 76)),none,(some (.str "BadWish" 271)),(some (.str "BadWish" 279)),(some (.builtin "ValueError.__new__")),(some (.bool true))])
def x50:Obj:=(.mk (.type "super") none (.fields #[(.ref 85),(.ref 85),(.ref 85)]) #[])
def x51:Obj:=(.mk (.type "builtin_function_or_method") none (.fields #[(.builtin "object.__init_subclass__"),(.ref 85)]) #[])
def x52 (P:Params):Obj:=(.mk (.type "dict") none (.dict #[(en P "__module__" 294 (.str "pebbletoll.errors" 187)),(en P "__qualname__" 296 (.str "TooMany" 295)),(en P "__firstlineno__" 298 (.int 14 297)),(en P "__static_attributes__" 299 (.ref 95))] 4) #[])
def x53:Obj:=(cO "TooMany" "TooMany" 289 290 291 14 0 0 0 0 (.ref 91) false 181 (.ref 92) .none .none .none .none 292 14 293)
def x54:Obj:=(.mk (.type "frame") none .plain #[(some (.ref 93)),(some (.ref 3)),(some (.ref 90)),none,(some (.str "pebbletoll.errors" 187)),none,(some (.ref 0))])
def x55 (P:Params):Obj:=(.mk (.type "dict") none (.dict #[(en P "__module__" 294 (.str "pebbletoll.errors" 187)),(en P "__firstlineno__" 298 (.int 14 297)),(en P "__static_attributes__" 299 (.ref 95)),(en P "__doc__" 300 .none)] 2) #[])
def x56:Obj:=(.mk (.type "type") none (.cls (.mk "TooMany" [(.ref 24)] [(.ref 97),(.ref 24),(.type "ValueError"),(.type "Exception"),(.type "BaseException"),(.type "object")] 96 "TooMany" true [] [] false none false)) #[(some (.ref 88)),none,(some (.str "TooMany" 287)),(some (.str "TooMany" 295)),(some (.builtin "ValueError.__new__")),(some (.bool true))])
def x57:Obj:=(.mk (.type "super") none (.fields #[(.ref 97),(.ref 97),(.ref 97)]) #[])
def x58:Obj:=(.mk (.type "builtin_function_or_method") none (.fields #[(.builtin "object.__init_subclass__"),(.ref 97)]) #[])
def x59 (P:Params):Obj:=(.mk (.type "dict") none (.dict #[(en P "__module__" 310 (.str "pebbletoll.errors" 187)),(en P "__qualname__" 312 (.str "NoNumber" 311)),(en P "__firstlineno__" 314 (.int 16 313)),(en P "__static_attributes__" 315 (.ref 107))] 4) #[])
def x60:Obj:=(cO "NoNumber" "NoNumber" 305 306 307 16 0 0 0 0 (.ref 103) false 181 (.ref 104) .none .none .none .none 308 16 309)
def x61:Obj:=(.mk (.type "frame") none .plain #[(some (.ref 105)),(some (.ref 3)),(some (.ref 102)),none,(some (.str "pebbletoll.errors" 187)),none,(some (.ref 0))])
def x62 (P:Params):Obj:=(.mk (.type "dict") none (.dict #[(en P "__module__" 310 (.str "pebbletoll.errors" 187)),(en P "__firstlineno__" 314 (.int 16 313)),(en P "__static_attributes__" 315 (.ref 107)),(en P "__doc__" 316 .none)] 2) #[])
def x63:Obj:=(.mk (.type "type") none (.cls (.mk "NoNumber" [(.ref 24)] [(.ref 109),(.ref 24),(.type "ValueError"),(.type "Exception"),(.type "BaseException"),(.type "object")] 108 "NoNumber" true [] [] false none false)) #[(some (.ref 100)),none,(some (.str "NoNumber" 303)),(some (.str "NoNumber" 311)),(some (.builtin "ValueError.__new__")),(some (.bool true))])
def x64:Obj:=(.mk (.type "super") none (.fields #[(.ref 109),(.ref 109),(.ref 109)]) #[])
def x65:Obj:=(.mk (.type "builtin_function_or_method") none (.fields #[(.builtin "object.__init_subclass__"),(.ref 109)]) #[])
def x66 (P:Params):Obj:=(.mk (.type "dict") none (.dict #[(en P "__module__" 326 (.str "pebbletoll.errors" 187)),(en P "__qualname__" 328 (.str "NoWorst" 327)),(en P "__firstlineno__" 330 (.int 18 329)),(en P "__static_attributes__" 331 (.ref 119))] 4) #[])
def x67:Obj:=(cO "NoWorst" "NoWorst" 321 322 323 18 0 0 0 0 (.ref 115) false 181 (.ref 116) .none .none .none .none 324 18 325)
def x68:Obj:=(.mk (.type "frame") none .plain #[(some (.ref 117)),(some (.ref 3)),(some (.ref 114)),none,(some (.str "pebbletoll.errors" 187)),none,(some (.ref 0))])
def x69 (P:Params):Obj:=(.mk (.type "dict") none (.dict #[(en P "__module__" 326 (.str "pebbletoll.errors" 187)),(en P "__firstlineno__" 330 (.int 18 329)),(en P "__static_attributes__" 331 (.ref 119)),(en P "__doc__" 332 .none)] 2) #[])
def x70:Obj:=(.mk (.type "type") none (.cls (.mk "NoWorst" [(.ref 24)] [(.ref 121),(.ref 24),(.type "ValueError"),(.type "Exception"),(.type "BaseException"),(.type "object")] 120 "NoWorst" true [] [] false none false)) #[(some (.ref 112)),none,(some (.str "NoWorst" 319)),(some (.str "NoWorst" 327)),(some (.builtin "ValueError.__new__")),(some (.bool true))])
def x71:Obj:=(.mk (.type "super") none (.fields #[(.ref 121),(.ref 121),(.ref 121)]) #[])
def x72:Obj:=(.mk (.type "builtin_function_or_method") none (.fields #[(.builtin "object.__init_subclass__"),(.ref 121)]) #[])
noncomputable def h0 (P:Params):Heap:=.mk (.mk (boot_o_0 P::boot_o_1 P::boot_o_2 P::x4 P::boot_o_4 P::boot_o_5 P::boot_o_6 P::boot_o_7 P::boot_o_8 P::boot_o_9 P::boot_o_10 P::x0::x5::x2::x3::x6::x7::x8 P::x0::x1::x9::x10::x0::x11 P::x12::x13::x14::x15::x16::x7::x17 P::x0::x1::x18::x19::x0::x20 P::x21::x22::x23::x16::x7::x24 P::x0::x1::x25::x26::x0::x27 P::x28::x29::x30::x16::x7::x31 P::x0::x1::x32::x33::x0::x34 P::x35::x36::x37::x16::x7::x38 P::x0::x1::x39::x40::x0::x41 P::x42::x43::x44::x16::x7::x45 P::x0::x1::x46::x47::x0::x48 P::x49::x50::x51::x16::x7::x52 P::x0::x1::x53::x54::x0::x55 P::x56::x57::x58::x16::x7::x59 P::x0::x1::x60::x61::x0::x62 P::x63::x64::x65::x16::x7::x66 P::x0::x1::x67::x68::x0::x69 P::x70::x71::x72::[])) (.mk [] [] [] 0 [] [] false #[] [] 0 false false false 0 [2000,10,10] false 0 true [] [] 0 false)
theorem Em (w:World) (os:OsState):segRun treeTable PySem.Challenge.pw_pebbletoll_k03_webs_refused w 11 (some (.ref 6)) 1 1900 (Shared.mk (hb w.params) (.mk []) (.mk 0 0 0 0) 187 os) (piecesOf st0 env cE (.mk 0 0 0 0) [topFrame (.mk 0 0 0 0)])=some (.next,(Shared.mk (h0 w.params) (.mk []) (.mk 0 0 0 0) 335 os),cE,(.mk 18 0 19 8)):=by kernel_rfl
def x73 (P:Params):Obj:=(.mk (.type "dict") none (.dict #[(en P "__name__" 165 (.str "law_pebbletoll_k03_webs_refused" 491)),(en P "__doc__" 166 .none),(en P "__package__" 167 .none),(en P "__loader__" 168 (.builtin "__main__.__loader__#opaque")),(en P "__spec__" 169 .none),(en P "__annotations__" 170 (.ref 6)),(en P "__builtins__" 171 (.ref 4)),(en P "__file__" 173 (.str "/claim/cut.py" 172)),(en P "__cached__" 174 .none),(en P "TollError" 206 (.ref 24)),(en P "BadWeb" 222 (.ref 37)),(en P "NoPlace" 238 (.ref 49)),(en P "NoRoad" 254 (.ref 61)),(en P "BadLaying" 270 (.ref 73)),(en P "BadWish" 286 (.ref 85)),(en P "TooMany" 302 (.ref 97)),(en P "NoNumber" 318 (.ref 109)),(en P "NoWorst" 334 (.ref 121)),(en P "NoDeed" 350 (.ref 133)),(en P "BadStep" 375 (.ref 152)),(en P "BadText" 400 (.ref 171)),(en P "MOST_PLACES" 404 (.int 24 403)),(en P "LEAST_TOLL" 406 (.int 2 405)),(en P "MOST_TOLL" 408 (.int 1000000 407)),(en P "Web" 436 (.ref 188)),(en P "is_place" 444 (.ref 199)),(en P "check_counts" 452 (.ref 206)),(en P "check_ends" 460 (.ref 213)),(en P "check_tolls" 468 (.ref 220)),(en P "check_joined" 480 (.ref 227)),(en P "other_ends" 490 (.ref 234)),(en P "_law_cell" 500 (.ref 241)),(en P "_law_stir" 509 (.ref 248)),(en P "_law_cells" 520 (.ref 255)),(en P "_law_take" 529 (.ref 262)),(en P "_law_toll" 537 (.ref 269)),(en P "_law_roads" 556 (.ref 276)),(en P "_law_web" 566 (.ref 283)),(en P "_law_marks" 574 (.ref 290)),(en P "_law_good" 588 (.ref 297)),(en P "_law_ends" 599 (.ref 304)),(en P "_law_costs" 611 (.ref 311)),(en P "_law_put" 624 (.ref 318)),(en P "_law_spoiled" 634 (.ref 325)),(en P "_law_word" 640 (.ref 330)),(en P "law" 646 (.ref 335))] 46) #[])
def x74:Obj:=(.mk .none none (.fields #[(.int 2 0),(.int 0 0),(.ref 20),(.int 4 0),(.int 0 0),(.ref 33),(.int 6 0),(.int 0 0),(.ref 45),(.int 8 0),(.int 0 0),(.ref 57),(.int 10 0),(.int 0 0),(.ref 69),(.int 12 0),(.int 0 0),(.ref 81),(.int 14 0),(.int 0 0),(.ref 93),(.int 16 0),(.int 0 0),(.ref 105),(.int 18 0),(.int 0 0),(.ref 117),(.int 20 0),(.int 0 0),(.ref 129),(.int 22 0),(.int 0 0),(.ref 141),(.int 27 0),(.int 0 0),(.ref 160),(.int 36 0),(.int 0 0),(.ref 179),(.int 47 0),(.int 0 0),(.ref 198),(.int 49 0),(.int 0 0),(.ref 205),(.int 54 0),(.int 0 0),(.ref 212),(.int 59 0),(.int 0 0),(.ref 219),(.int 63 0),(.int 0 0),(.ref 226),(.int 74 0),(.int 0 0),(.ref 233),(.int 83 0),(.int 0 0),(.ref 240),(.int 87 0),(.int 0 0),(.ref 247),(.int 91 0),(.int 0 0),(.ref 254),(.int 97 0),(.int 0 0),(.ref 261),(.int 101 0),(.int 0 0),(.ref 268),(.int 108 0),(.int 0 0),(.ref 275),(.int 126 0),(.int 0 0),(.ref 282),(.int 130 0),(.int 0 0),(.ref 289),(.int 134 0),(.int 0 0),(.ref 296),(.int 149 0),(.int 0 0),(.ref 303),(.int 155 0),(.int 0 0),(.ref 310),(.int 164 0),(.int 0 0),(.ref 317),(.int 183 0),(.int 0 0),(.ref 324),(.int 194 0),(.int 0 0),(.ref 329),(.int 206 0),(.int 0 0),(.ref 334)]) #[])
def x75:Obj:=(.mk (.type "type") none (.cls (.mk "TollError" [(.type "ValueError")] [(.ref 24),(.type "ValueError"),(.type "Exception"),(.type "BaseException"),(.type "object")] 23 "TollError" true [] [(.ref 37),(.ref 49),(.ref 61),(.ref 73),(.ref 85),(.ref 97),(.ref 109),(.ref 121),(.ref 133),(.ref 152),(.ref 171)] false none false)) #[(some (.ref 15)),none,(some (.str "TollError" 189)),(some (.str "TollError" 197)),(some (.builtin "ValueError.__new__")),(some (.bool true))])
def x76 (P:Params):Obj:=(.mk (.type "dict") none (.dict #[(en P "__module__" 342 (.str "pebbletoll.errors" 187)),(en P "__qualname__" 344 (.str "NoDeed" 343)),(en P "__firstlineno__" 346 (.int 20 345)),(en P "__static_attributes__" 347 (.ref 131))] 4) #[])
def x77:Obj:=(cO "NoDeed" "NoDeed" 337 338 339 20 0 0 0 0 (.ref 127) false 181 (.ref 128) .none .none .none .none 340 20 341)
def x78:Obj:=(.mk (.type "frame") none .plain #[(some (.ref 129)),(some (.ref 3)),(some (.ref 126)),none,(some (.str "pebbletoll.errors" 187)),none,(some (.ref 0))])
def x79 (P:Params):Obj:=(.mk (.type "dict") none (.dict #[(en P "__module__" 342 (.str "pebbletoll.errors" 187)),(en P "__firstlineno__" 346 (.int 20 345)),(en P "__static_attributes__" 347 (.ref 131)),(en P "__doc__" 348 .none)] 2) #[])
def x80:Obj:=(.mk (.type "type") none (.cls (.mk "NoDeed" [(.ref 24)] [(.ref 133),(.ref 24),(.type "ValueError"),(.type "Exception"),(.type "BaseException"),(.type "object")] 132 "NoDeed" true [] [] false none false)) #[(some (.ref 124)),none,(some (.str "NoDeed" 335)),(some (.str "NoDeed" 343)),(some (.builtin "ValueError.__new__")),(some (.bool true))])
def x81:Obj:=(.mk (.type "super") none (.fields #[(.ref 133),(.ref 133),(.ref 133)]) #[])
def x82:Obj:=(.mk (.type "builtin_function_or_method") none (.fields #[(.builtin "object.__init_subclass__"),(.ref 133)]) #[])
def x83 (P:Params):Obj:=(.mk (.type "dict") none (.dict #[(en P "__module__" 358 (.str "pebbletoll.errors" 187)),(en P "__qualname__" 360 (.str "BadStep" 359)),(en P "__firstlineno__" 362 (.int 22 361)),(en P "__init__" 370 (.ref 149)),(en P "__static_attributes__" 372 (.ref 150))] 5) #[])
def x84:Obj:=(.mk .none none (.fields #[(.int 24 0),(.int 4 0),(.ref 148)]) #[])
def x85:Obj:=(cO "BadStep" "BadStep" 353 354 355 22 0 0 0 0 (.ref 139) false 181 (.ref 140) .none .none .none .none 356 22 357)
def x86:Obj:=(.mk (.type "frame") none .plain #[(some (.ref 141)),(some (.ref 3)),(some (.ref 138)),none,(some (.str "pebbletoll.errors" 187)),none,(some (.ref 0))])
def x87:Obj:=(tO #[(.str "self" 366),(.str "at" 367)])
def x88:Obj:=(fR "__init__" "BadStep.__init__" (inC (top 11) 0))
def x89:Obj:=(cO "__init__" "BadStep.__init__" 363 364 365 24 2 0 0 3 (.ref 143) true 181 (.ref 144) .none (.ref 145) (.ref 146) (.ref 147) 368 24 369)
def x90:Obj:=(fO "__init__" "BadStep.__init__" (inC (top 11) 0) (.str "pebbletoll.errors" 187) (.ref 148))
def x91:Obj:=(tO #[(.str "at" 371)])
def x92 (P:Params):Obj:=(.mk (.type "dict") none (.dict #[(en P "__module__" 358 (.str "pebbletoll.errors" 187)),(en P "__firstlineno__" 362 (.int 22 361)),(en P "__init__" 370 (.ref 149)),(en P "__static_attributes__" 372 (.ref 150)),(en P "__doc__" 373 .none)] 2) #[])
def x93:Obj:=(.mk (.type "type") none (.cls (.mk "BadStep" [(.ref 24)] [(.ref 152),(.ref 24),(.type "ValueError"),(.type "Exception"),(.type "BaseException"),(.type "object")] 151 "BadStep" true [] [] false none false)) #[(some (.ref 136)),none,(some (.str "BadStep" 351)),(some (.str "BadStep" 359)),(some (.builtin "ValueError.__new__")),(some (.bool true))])
def x94:Obj:=(.mk (.type "super") none (.fields #[(.ref 152),(.ref 152),(.ref 152)]) #[])
def x95:Obj:=(.mk (.type "builtin_function_or_method") none (.fields #[(.builtin "object.__init_subclass__"),(.ref 152)]) #[])
def x96 (P:Params):Obj:=(.mk (.type "dict") none (.dict #[(en P "__module__" 383 (.str "pebbletoll.errors" 187)),(en P "__qualname__" 385 (.str "BadText" 384)),(en P "__firstlineno__" 387 (.int 27 386)),(en P "__init__" 395 (.ref 168)),(en P "__static_attributes__" 397 (.ref 169))] 5) #[])
def x97:Obj:=(.mk .none none (.fields #[(.int 29 0),(.int 4 0),(.ref 167)]) #[])
def x98:Obj:=(cO "BadText" "BadText" 378 379 380 27 0 0 0 0 (.ref 158) false 181 (.ref 159) .none .none .none .none 381 27 382)
def x99:Obj:=(.mk (.type "frame") none .plain #[(some (.ref 160)),(some (.ref 3)),(some (.ref 157)),none,(some (.str "pebbletoll.errors" 187)),none,(some (.ref 0))])
def Bh:Obj:=(tO #[(.str "self" 391),(.str "at" 392)])
def Dm:Obj:=(fR "__init__" "BadText.__init__" (inC (top 12) 0))
def B7:Obj:=(cO "__init__" "BadText.__init__" 388 389 390 29 2 0 0 3 (.ref 162) true 181 (.ref 163) .none (.ref 164) (.ref 165) (.ref 166) 393 29 394)
def Bn:Obj:=(fO "__init__" "BadText.__init__" (inC (top 12) 0) (.str "pebbletoll.errors" 187) (.ref 167))
def BZ:Obj:=(tO #[(.str "at" 396)])
def Ba (P:Params):Obj:=(.mk (.type "dict") none (.dict #[(en P "__module__" 383 (.str "pebbletoll.errors" 187)),(en P "__firstlineno__" 387 (.int 27 386)),(en P "__init__" 395 (.ref 168)),(en P "__static_attributes__" 397 (.ref 169)),(en P "__doc__" 398 .none)] 2) #[])
def BM:Obj:=(.mk (.type "type") none (.cls (.mk "BadText" [(.ref 24)] [(.ref 171),(.ref 24),(.type "ValueError"),(.type "Exception"),(.type "BaseException"),(.type "object")] 170 "BadText" true [] [] false none false)) #[(some (.ref 155)),none,(some (.str "BadText" 376)),(some (.str "BadText" 384)),(some (.builtin "ValueError.__new__")),(some (.bool true))])
def Dy:Obj:=(.mk (.type "super") none (.fields #[(.ref 171),(.ref 171),(.ref 171)]) #[])
def Db:Obj:=(.mk (.type "builtin_function_or_method") none (.fields #[(.builtin "object.__init_subclass__"),(.ref 171)]) #[])
def Da (P:Params):Obj:=(.mk (.type "dict") none (.dict #[(en P "__module__" 416 (.str "pebbletoll.webs" 401)),(en P "__qualname__" 418 (.str "Web" 417)),(en P "__firstlineno__" 420 (.int 36 419)),(en P "__init__" 426 (.ref 185)),(en P "__static_attributes__" 429 (.ref 186))] 5) #[])
def Dx:Obj:=(.mk .none none (.fields #[(.int 38 0),(.int 4 0),(.ref 184)]) #[])
def DL:Obj:=(cO "Web" "Web" 411 412 413 36 0 0 0 0 (.ref 177) false 181 (.ref 178) .none .none .none .none 414 36 415)
def C4:Obj:=(.mk (.type "frame") none .plain #[(some (.ref 179)),(some (.ref 3)),(some (.ref 176)),none,(some (.str "pebbletoll.webs" 401)),none,(some (.ref 0))])
def CY:Obj:=(fR "__init__" "Web.__init__" (inC (top 17) 0))
def AN:Obj:=(cO "__init__" "Web.__init__" 421 422 423 38 3 0 0 3 (.ref 181) true 181 (.ref 182) .none .none .none (.ref 183) 424 38 425)
def AR:Obj:=(fO "__init__" "Web.__init__" (inC (top 17) 0) (.str "pebbletoll.webs" 401) (.ref 184))
def zR:Obj:=(tO #[(.str "many" 427),(.str "roads" 428)])
def AB (P:Params):Obj:=(.mk (.type "dict") none (.dict #[(en P "__module__" 416 (.str "pebbletoll.webs" 401)),(en P "__firstlineno__" 420 (.int 36 419)),(en P "__init__" 426 (.ref 185)),(en P "__static_attributes__" 429 (.ref 186)),(en P "__dict__" 431 (.ref 189)),(en P "__weakref__" 433 (.ref 190)),(en P "__doc__" 434 .none)] 4) #[])
def A7:Obj:=(.mk (.type "type") none (.cls (.mk "Web" [(.type "object")] [(.ref 188),(.type "object")] 187 "Web" true [] [] false none false)) #[none,none,(some (.str "Web" 409)),(some (.str "Web" 417)),(some (.builtin "object.__new__")),(some (.bool true))])
def Ap:Obj:=(.mk (.type "getset_descriptor") none (.fields #[(.str "__dict__" 430),(.ref 188),(.builtin "function.__dict__"),(.builtin "function.__dict__#set")]) #[])
def Al:Obj:=(.mk (.type "getset_descriptor") none (.fields #[(.str "__weakref__" 432),(.ref 188),(.builtin "ExceptionGroup.__weakref__"),.none]) #[])
def DD:Obj:=(.mk (.type "super") none (.fields #[(.ref 188),(.ref 188),(.ref 188)]) #[])
def CS:Obj:=(.mk (.type "builtin_function_or_method") none (.fields #[(.builtin "object.__init_subclass__"),(.ref 188)]) #[])
def BI:Obj:=(tO #[(.str "many" 440),(.str "number" 441)])
def Dh:Obj:=(fR "is_place" "is_place" (top 18))
def B3:Obj:=(cO "is_place" "is_place" 437 438 439 47 2 0 0 3 (.ref 193) true 181 (.ref 194) .none (.ref 195) (.ref 196) (.ref 197) 442 47 443)
def BC:Obj:=(fO "is_place" "is_place" (top 18) (.str "pebbletoll.webs" 401) (.ref 198))
def BJ:Obj:=(tO #[(.str "many" 448),(.str "roads" 449)])
def DR:Obj:=(fR "check_counts" "check_counts" (top 19))
def BL:Obj:=(cO "check_counts" "check_counts" 445 446 447 49 2 0 0 3 (.ref 200) true 181 (.ref 201) .none (.ref 202) (.ref 203) (.ref 204) 450 49 451)
def Au:Obj:=(fO "check_counts" "check_counts" (top 19) (.str "pebbletoll.webs" 401) (.ref 205))
def zJ:Obj:=(tO #[(.str "many" 456),(.str "road" 457)])
def CQ:Obj:=(fR "check_ends" "check_ends" (top 20))
def A1:Obj:=(cO "check_ends" "check_ends" 453 454 455 54 2 0 0 3 (.ref 207) true 181 (.ref 208) .none (.ref 209) (.ref 210) (.ref 211) 458 54 459)
def AW:Obj:=(fO "check_ends" "check_ends" (top 20) (.str "pebbletoll.webs" 401) (.ref 212))
def AX:Obj:=(tO #[(.str "road" 464),(.str "number" 465)])
def DX:Obj:=(fR "check_tolls" "check_tolls" (top 21))
def Bm:Obj:=(cO "check_tolls" "check_tolls" 461 462 463 59 1 0 0 3 (.ref 214) true 181 (.ref 215) .none (.ref 216) (.ref 217) (.ref 218) 466 59 467)
def Ai:Obj:=(fO "check_tolls" "check_tolls" (top 21) (.str "pebbletoll.webs" 401) (.ref 219))
def Az:Obj:=(tO #[(.str "many" 472),(.str "roads" 473),(.str "reached" 474),(.str "waiting" 475),(.str "place" 476),(.str "end" 477)])
def DJ:Obj:=(fR "check_joined" "check_joined" (top 22))
def Ay:Obj:=(cO "check_joined" "check_joined" 469 470 471 63 2 0 0 3 (.ref 221) true 181 (.ref 222) .none (.ref 223) (.ref 224) (.ref 225) 478 63 479)
def Bi:Obj:=(fO "check_joined" "check_joined" (top 22) (.str "pebbletoll.webs" 401) (.ref 226))
def A0:Obj:=(tO #[(.str "roads" 484),(.str "place" 485),(.str "ends" 486),(.str "road" 487)])
def DF:Obj:=(fR "other_ends" "other_ends" (top 23))
def AZ:Obj:=(cO "other_ends" "other_ends" 481 482 483 74 2 0 0 3 (.ref 228) true 181 (.ref 229) .none (.ref 230) (.ref 231) (.ref 232) 488 74 489)
def AY:Obj:=(fO "other_ends" "other_ends" (top 23) (.str "pebbletoll.webs" 401) (.ref 233))
def Aq:Obj:=(tO #[(.str "script" 496),(.str "k" 497)])
def Dt:Obj:=(fR "_law_cell" "_law_cell" (top 25))
def Ad:Obj:=(cO "_law_cell" "_law_cell" 493 494 495 83 2 0 0 3 (.ref 235) true 181 (.ref 236) .none (.ref 237) (.ref 238) (.ref 239) 498 83 499)
def BX:Obj:=(fO "_law_cell" "_law_cell" (top 25) (.str "law_pebbletoll_k03_webs_refused" 491) (.ref 240))
def zL:Obj:=(tO #[(.str "cell" 504),(.str "k" 505),(.str "big" 506)])
def DH:Obj:=(fR "_law_stir" "_law_stir" (top 26))
def BW:Obj:=(cO "_law_stir" "_law_stir" 501 502 503 87 2 0 0 3 (.ref 242) true 181 (.ref 243) .none (.ref 244) (.ref 245) (.ref 246) 507 87 508)
def Av:Obj:=(fO "_law_stir" "_law_stir" (top 26) (.str "law_pebbletoll_k03_webs_refused" 491) (.ref 247))
def zN:Obj:=(tO #[(.str "script" 513),(.str "many" 514),(.str "cells" 515),(.str "k" 516),(.str "at" 517)])
def D3:Obj:=(fR "_law_cells" "_law_cells" (top 27))
def z7:Obj:=(cO "_law_cells" "_law_cells" 510 511 512 91 2 0 0 3 (.ref 249) true 181 (.ref 250) .none (.ref 251) (.ref 252) (.ref 253) 518 91 519)
def zM:Obj:=(fO "_law_cells" "_law_cells" (top 27) (.str "law_pebbletoll_k03_webs_refused" 491) (.ref 254))
def Bu:Obj:=(tO #[(.str "pot" 524),(.str "n" 525),(.str "found" 526)])
def DM:Obj:=(fR "_law_take" "_law_take" (top 28))
def Bc:Obj:=(cO "_law_take" "_law_take" 521 522 523 97 2 0 0 3 (.ref 256) true 181 (.ref 257) .none (.ref 258) (.ref 259) (.ref 260) 527 97 528)
def AU:Obj:=(fO "_law_take" "_law_take" (top 28) (.str "law_pebbletoll_k03_webs_refused" 491) (.ref 261))
def zP:Obj:=(tO #[(.str "pot" 533),(.str "kind" 534)])
def Dj:Obj:=(fR "_law_toll" "_law_toll" (top 29))
def A4:Obj:=(cO "_law_toll" "_law_toll" 530 531 532 101 1 0 0 3 (.ref 263) true 181 (.ref 264) .none (.ref 265) (.ref 266) (.ref 267) 535 101 536)
def zQ:Obj:=(fO "_law_toll" "_law_toll" (top 29) (.str "law_pebbletoll_k03_webs_refused" 491) (.ref 268))
def Bj:Obj:=(tO #[(.str "cells" 541),(.str "first" 542),(.str "labels" 543),(.str "rows" 544),(.str "k" 545),(.str "pot" 546),(.str "under" 547),(.str "there" 548),(.str "back" 549),(.str "roads" 550),(.str "swap" 551),(.str "spot" 552),(.str "road" 553)])
def Dn:Obj:=(fR "_law_roads" "_law_roads" (top 30))
def zY:Obj:=(cO "_law_roads" "_law_roads" 538 539 540 108 2 0 0 3 (.ref 270) true 181 (.ref 271) .none (.ref 272) (.ref 273) (.ref 274) 554 108 555)
def AV:Obj:=(fO "_law_roads" "_law_roads" (top 30) (.str "law_pebbletoll_k03_webs_refused" 491) (.ref 275))
def zW:Obj:=(tO #[(.str "script" 560),(.str "sizes" 561),(.str "first" 562),(.str "many" 563)])
def C3:Obj:=(fR "_law_web" "_law_web" (top 31))
def Bx:Obj:=(cO "_law_web" "_law_web" 557 558 559 126 2 0 0 3 (.ref 277) true 181 (.ref 278) .none (.ref 279) (.ref 280) (.ref 281) 564 126 565)
def BS:Obj:=(fO "_law_web" "_law_web" (top 31) (.str "law_pebbletoll_k03_webs_refused" 491) (.ref 282))
def Bs:Obj:=(tO #[(.str "e" 570),(.str "marks" 571)])
def DZ:Obj:=(fR "_law_marks" "_law_marks" (top 32))
def AD:Obj:=(cO "_law_marks" "_law_marks" 567 568 569 130 1 0 0 3 (.ref 284) true 181 (.ref 285) .none (.ref 286) (.ref 287) (.ref 288) 572 130 573)
def Am:Obj:=(fO "_law_marks" "_law_marks" (top 32) (.str "law_pebbletoll_k03_webs_refused" 491) (.ref 289))
def AH:Obj:=(tO #[(.str "many" 578),(.str "roads" 579),(.str "one" 580),(.str "other" 581),(.str "there" 582),(.str "back" 583),(.str "met" 584),(.str "turn" 585)])
def Dg:Obj:=(fR "_law_good" "_law_good" (top 33))
def A6:Obj:=(cO "_law_good" "_law_good" 575 576 577 134 2 0 0 3 (.ref 291) true 181 (.ref 292) .none (.ref 293) (.ref 294) (.ref 295) 586 134 587)
def Aj:Obj:=(fO "_law_good" "_law_good" (top 33) (.str "law_pebbletoll_k03_webs_refused" 491) (.ref 296))
def Aa:Obj:=(tO #[(.str "many" 592),(.str "road" 593),(.str "pot" 594),(.str "far" 595),(.str "odd" 596)])
def C6:Obj:=(fR "_law_ends" "_law_ends" (top 34))
def zX:Obj:=(cO "_law_ends" "_law_ends" 589 590 591 149 3 0 0 3 (.ref 298) true 181 (.ref 299) .none (.ref 300) (.ref 301) (.ref 302) 597 149 598)
def zO:Obj:=(fO "_law_ends" "_law_ends" (top 34) (.str "law_pebbletoll_k03_webs_refused" 491) (.ref 303))
def AM:Obj:=(tO #[(.str "road" 603),(.str "pot" 604),(.str "bad" 605),(.str "far" 606),(.str "some" 607),(.str "odd" 608)])
def DQ:Obj:=(fR "_law_costs" "_law_costs" (top 35))
def z9:Obj:=(cO "_law_costs" "_law_costs" 600 601 602 155 3 0 0 3 (.ref 305) true 181 (.ref 306) .none (.ref 307) (.ref 308) (.ref 309) 609 155 610)
def Ag:Obj:=(fO "_law_costs" "_law_costs" (top 35) (.str "law_pebbletoll_k03_webs_refused" 491) (.ref 310))
def A5:Obj:=(tO #[(.str "many" 615),(.str "roads" 616),(.str "kind" 617),(.str "pot" 618),(.str "at" 619),(.str "road" 620),(.str "other" 621)])
def Dc:Obj:=(fR "_law_put" "_law_put" (top 36))
def Bq:Obj:=(cO "_law_put" "_law_put" 612 613 614 164 4 0 0 3 (.ref 312) true 181 (.ref 313) .none (.ref 314) (.ref 315) (.ref 316) 622 164 623)
def z8:Obj:=(fO "_law_put" "_law_put" (top 36) (.str "law_pebbletoll_k03_webs_refused" 491) (.ref 317))
def AQ:Obj:=(tO #[(.str "many" 628),(.str "roads" 629),(.str "pot" 630),(.str "kind" 631)])
def Dr:Obj:=(fR "_law_spoiled" "_law_spoiled" (top 37))
def AK:Obj:=(cO "_law_spoiled" "_law_spoiled" 625 626 627 183 3 0 0 3 (.ref 319) true 181 (.ref 320) .none (.ref 321) (.ref 322) (.ref 323) 632 183 633)
def Ao:Obj:=(fO "_law_spoiled" "_law_spoiled" (top 37) (.str "law_pebbletoll_k03_webs_refused" 491) (.ref 324))
def DI:Obj:=(fR "_law_word" "_law_word" (top 38))
def Ab:Obj:=(cO "_law_word" "_law_word" 635 636 637 194 2 0 0 3 (.ref 326) true 181 (.ref 327) .none .none .none (.ref 328) 638 194 639)
def AJ:Obj:=(fO "_law_word" "_law_word" (top 38) (.str "law_pebbletoll_k03_webs_refused" 491) (.ref 329))
def C7:Obj:=(fR "law" "law" (top 39))
def Bf:Obj:=(cO "law" "law" 641 642 643 206 1 0 0 3 (.ref 331) true 181 (.ref 332) .none .none .none (.ref 333) 644 206 645)
def Aw:Obj:=(fO "law" "law" (top 39) (.str "law_pebbletoll_k03_webs_refused" 491) (.ref 334))
noncomputable def h1 (P:Params):Heap:=.mk (.mk (boot_o_0 P::boot_o_1 P::boot_o_2 P::x73 P::boot_o_4 P::boot_o_5 P::boot_o_6 P::boot_o_7 P::boot_o_8 P::boot_o_9 P::boot_o_10 P::x0::x74::x2::x3::x6::x7::x8 P::x0::x1::x9::x10::x0::x11 P::x75::x13::x14::x15::x16::x7::x17 P::x0::x1::x18::x19::x0::x20 P::x21::x22::x23::x16::x7::x24 P::x0::x1::x25::x26::x0::x27 P::x28::x29::x30::x16::x7::x31 P::x0::x1::x32::x33::x0::x34 P::x35::x36::x37::x16::x7::x38 P::x0::x1::x39::x40::x0::x41 P::x42::x43::x44::x16::x7::x45 P::x0::x1::x46::x47::x0::x48 P::x49::x50::x51::x16::x7::x52 P::x0::x1::x53::x54::x0::x55 P::x56::x57::x58::x16::x7::x59 P::x0::x1::x60::x61::x0::x62 P::x63::x64::x65::x16::x7::x66 P::x0::x1::x67::x68::x0::x69 P::x70::x71::x72::x16::x7::x76 P::x0::x1::x77::x78::x0::x79 P::x80::x81::x82::x16::x7::x83 P::x0::x84::x85::x86::x0::x1::x87::x0::x88::x89::x90::x91::x92 P::x93::x94::x95::x16::x7::x96 P::x0::x97::x98::x99::x0::x1::Bh::x0::Dm::B7::Bn::BZ::Ba P::BM::Dy::Db::x0::x7::Da P::x0::Dx::DL::C4::x0::x1::CY::AN::AR::zR::AB P::A7::Ap::Al::DD::CS::x0::x1::BI::x0::Dh::B3::BC::x0::x1::BJ::x0::DR::BL::Au::x0::x1::zJ::x0::CQ::A1::AW::x0::x1::AX::x0::DX::Bm::Ai::x0::x1::Az::x0::DJ::Ay::Bi::x0::x1::A0::x0::DF::AZ::AY::x0::x1::Aq::x0::Dt::Ad::BX::x0::x1::zL::x0::DH::BW::Av::x0::x1::zN::x0::D3::z7::zM::x0::x1::Bu::x0::DM::Bc::AU::x0::x1::zP::x0::Dj::A4::zQ::x0::x1::Bj::x0::Dn::zY::AV::x0::x1::zW::x0::C3::Bx::BS::x0::x1::Bs::x0::DZ::AD::Am::x0::x1::AH::x0::Dg::A6::Aj::x0::x1::Aa::x0::C6::zX::zO::x0::x1::AM::x0::DQ::z9::Ag::x0::x1::A5::x0::Dc::Bq::z8::x0::x1::AQ::x0::Dr::AK::Ao::x0::x1::DI::Ab::AJ::x0::x1::C7::Bf::Aw::[])) (.mk [] [] [] 0 [] [] false #[] [] 0 false false false 0 [2000,10,10] false 0 true [] [] 0 false)
theorem Es (w:World) (os:OsState):segRun treeTable PySem.Challenge.pw_pebbletoll_k03_webs_refused w 11 (some (.ref 6)) 1 1634 (Shared.mk (h0 w.params) (.mk []) (.mk 0 0 0 0) 335 os) (piecesOf st1 env cE (.mk 18 0 19 8) [topFrame (.mk 0 0 0 0)])=some (.next,(Shared.mk (h1 w.params) (.mk []) (.mk 0 0 0 0) 647 os),cE,(.mk 206 0 214 80)):=by kernel_rfl
noncomputable def hf (P:Params):Heap:=.mk (.mk (boot_o_0 P::boot_o_1 P::boot_o_2 P::x73 P::boot_o_4 P::boot_o_5 P::boot_o_6 P::boot_o_7 P::boot_o_8 P::boot_o_9 P::boot_o_10 P::x0::x74::x2::x3::x6::x7::x8 P::x0::x1::x9::x10::x0::x11 P::x75::x13::x14::x15::x16::x7::x17 P::x0::x1::x18::x19::x0::x20 P::x21::x22::x23::x16::x7::x24 P::x0::x1::x25::x26::x0::x27 P::x28::x29::x30::x16::x7::x31 P::x0::x1::x32::x33::x0::x34 P::x35::x36::x37::x16::x7::x38 P::x0::x1::x39::x40::x0::x41 P::x42::x43::x44::x16::x7::x45 P::x0::x1::x46::x47::x0::x48 P::x49::x50::x51::x16::x7::x52 P::x0::x1::x53::x54::x0::x55 P::x56::x57::x58::x16::x7::x59 P::x0::x1::x60::x61::x0::x62 P::x63::x64::x65::x16::x7::x66 P::x0::x1::x67::x68::x0::x69 P::x70::x71::x72::x16::x7::x76 P::x0::x1::x77::x78::x0::x79 P::x80::x81::x82::x16::x7::x83 P::x0::x84::x85::x86::x0::x1::x87::x0::x88::x89::x90::x91::x92 P::x93::x94::x95::x16::x7::x96 P::x0::x97::x98::x99::x0::x1::Bh::x0::Dm::B7::Bn::BZ::Ba P::BM::Dy::Db::x0::x7::Da P::x0::Dx::DL::C4::x0::x1::CY::AN::AR::zR::AB P::A7::Ap::Al::DD::CS::x0::x1::BI::x0::Dh::B3::BC::x0::x1::BJ::x0::DR::BL::Au::x0::x1::zJ::x0::CQ::A1::AW::x0::x1::AX::x0::DX::Bm::Ai::x0::x1::Az::x0::DJ::Ay::Bi::x0::x1::A0::x0::DF::AZ::AY::x0::x1::Aq::x0::Dt::Ad::BX::x0::x1::zL::x0::DH::BW::Av::x0::x1::zN::x0::D3::z7::zM::x0::x1::Bu::x0::DM::Bc::AU::x0::x1::zP::x0::Dj::A4::zQ::x0::x1::Bj::x0::Dn::zY::AV::x0::x1::zW::x0::C3::Bx::BS::x0::x1::Bs::x0::DZ::AD::Am::x0::x1::AH::x0::Dg::A6::Aj::x0::x1::Aa::x0::C6::zX::zO::x0::x1::AM::x0::DQ::z9::Ag::x0::x1::A5::x0::Dc::Bq::z8::x0::x1::AQ::x0::Dr::AK::Ao::x0::x1::DI::Ab::AJ::x0::x1::C7::Bf::Aw::[])) (.mk [] [] [] 0 [] [] false #[] [] 0 false false false 0 [2000,10,10] false 0 true [] [] 0 false)
theorem Ep (w:World) (os:OsState):topRun treeTable PySem.Challenge.pw_pebbletoll_k03_webs_refused w 11 (some (.ref 6)) 2 (Shared.mk (h1 w.params) (.mk []) (.mk 0 0 0 0) 647 os) (restOf [] env cE (.mk 206 0 214 80) [topFrame (.mk 0 0 0 0)])=some (Shared.mk (hf w.params) (.mk []) (.mk 0 0 0 0) 647 os):=by kernel_rfl
theorem run (w:World) (os:OsState):topRun treeTable PySem.Challenge.pw_pebbletoll_k03_webs_refused w 11 (some (.ref 6)) (12+(1+(1900+(1634+(2))))) (Shared.mk (boot_heap w.params) (.mk []) boot_drawn boot_toks os) (topStub PySem.Challenge.pw_pebbletoll_k03_webs_refused)=some (Shared.mk (hf w.params) (.mk []) (.mk 0 0 0 0) 647 os):=go_top (Eo w os) (piece_block (EA w os) (piece_app (Em w os) (piece_app (Es w os) (Ep w os))))
theorem opn:∀ w:World,(fencedOpening treeTable PySem.Challenge.pw_pebbletoll_k03_webs_refused w 7190).map (fun s=>(s.heap,s.gens,s.drawn,s.toks))=some (boot_heap w.params,Array.mk [],boot_drawn,boot_toks):=boot_open (by kernel_rfl) (by decide) fun s=>by kernel_rfl
theorem siz (w:World):((boot_heap w.params).isNs mainGlobals && (Array.mk ([]:List GenState)).size == 0,(boot_heap w.params).objs.size,(boot_heap w.params).nsMap mainGlobals "__annotations__")=(true,11,(some (.ref 6))):=by kernel_rfl
noncomputable def KK:Params->Frag:=fun P =>
 (nat_lit 2,boot_o_2 P) ::
 (nat_lit 3,x73 P) ::
 (nat_lit 15,x6) ::
 (nat_lit 22,x0) ::
 (nat_lit 23,x11 P) ::
 (nat_lit 24,x75) ::
 (nat_lit 25,x13) ::
 (nat_lit 28,x16) ::
 (nat_lit 35,x0) ::
 (nat_lit 36,x20 P) ::
 (nat_lit 37,x21) ::
 (nat_lit 40,x16) ::
 (nat_lit 47,x0) ::
 (nat_lit 48,x27 P) ::
 (nat_lit 49,x28) ::
 (nat_lit 52,x16) ::
 (nat_lit 59,x0) ::
 (nat_lit 60,x34 P) ::
 (nat_lit 61,x35) ::
 (nat_lit 64,x16) ::
 (nat_lit 71,x0) ::
 (nat_lit 72,x41 P) ::
 (nat_lit 73,x42) ::
 (nat_lit 76,x16) ::
 (nat_lit 83,x0) ::
 (nat_lit 84,x48 P) ::
 (nat_lit 85,x49) ::
 (nat_lit 88,x16) ::
 (nat_lit 95,x0) ::
 (nat_lit 96,x55 P) ::
 (nat_lit 97,x56) ::
 (nat_lit 100,x16) ::
 (nat_lit 107,x0) ::
 (nat_lit 108,x62 P) ::
 (nat_lit 109,x63) ::
 (nat_lit 112,x16) ::
 (nat_lit 119,x0) ::
 (nat_lit 120,x69 P) ::
 (nat_lit 121,x70) ::
 (nat_lit 124,x16) ::
 (nat_lit 131,x0) ::
 (nat_lit 132,x79 P) ::
 (nat_lit 133,x80) ::
 (nat_lit 136,x16) ::
 (nat_lit 143,x0) ::
 (nat_lit 145,x87) ::
 (nat_lit 146,x0) ::
 (nat_lit 148,x89) ::
 (nat_lit 149,x90) ::
 (nat_lit 150,x91) ::
 (nat_lit 151,x92 P) ::
 (nat_lit 152,x93) ::
 (nat_lit 155,x16) ::
 (nat_lit 162,x0) ::
 (nat_lit 164,Bh) ::
 (nat_lit 165,x0) ::
 (nat_lit 167,B7) ::
 (nat_lit 168,Bn) ::
 (nat_lit 169,BZ) ::
 (nat_lit 170,Ba P) ::
 (nat_lit 171,BM) ::
 (nat_lit 181,x0) ::
 (nat_lit 184,AN) ::
 (nat_lit 185,AR) ::
 (nat_lit 186,zR) ::
 (nat_lit 187,AB P) ::
 (nat_lit 188,A7) ::
 (nat_lit 189,Ap) ::
 (nat_lit 190,Al) ::
 (nat_lit 193,x0) ::
 (nat_lit 195,BI) ::
 (nat_lit 196,x0) ::
 (nat_lit 198,B3) ::
 (nat_lit 199,BC) ::
 (nat_lit 200,x0) ::
 (nat_lit 202,BJ) ::
 (nat_lit 203,x0) ::
 (nat_lit 205,BL) ::
 (nat_lit 206,Au) ::
 (nat_lit 207,x0) ::
 (nat_lit 209,zJ) ::
 (nat_lit 210,x0) ::
 (nat_lit 212,A1) ::
 (nat_lit 213,AW) ::
 (nat_lit 214,x0) ::
 (nat_lit 216,AX) ::
 (nat_lit 217,x0) ::
 (nat_lit 219,Bm) ::
 (nat_lit 220,Ai) ::
 (nat_lit 221,x0) ::
 (nat_lit 223,Az) ::
 (nat_lit 224,x0) ::
 (nat_lit 226,Ay) ::
 (nat_lit 227,Bi) ::
 (nat_lit 228,x0) ::
 (nat_lit 230,A0) ::
 (nat_lit 231,x0) ::
 (nat_lit 233,AZ) ::
 (nat_lit 234,AY) ::
 (nat_lit 235,x0) ::
 (nat_lit 237,Aq) ::
 (nat_lit 238,x0) ::
 (nat_lit 240,Ad) ::
 (nat_lit 241,BX) ::
 (nat_lit 242,x0) ::
 (nat_lit 244,zL) ::
 (nat_lit 245,x0) ::
 (nat_lit 247,BW) ::
 (nat_lit 248,Av) ::
 (nat_lit 249,x0) ::
 (nat_lit 251,zN) ::
 (nat_lit 252,x0) ::
 (nat_lit 254,z7) ::
 (nat_lit 255,zM) ::
 (nat_lit 256,x0) ::
 (nat_lit 258,Bu) ::
 (nat_lit 259,x0) ::
 (nat_lit 261,Bc) ::
 (nat_lit 262,AU) ::
 (nat_lit 263,x0) ::
 (nat_lit 265,zP) ::
 (nat_lit 266,x0) ::
 (nat_lit 268,A4) ::
 (nat_lit 269,zQ) ::
 (nat_lit 270,x0) ::
 (nat_lit 272,Bj) ::
 (nat_lit 273,x0) ::
 (nat_lit 275,zY) ::
 (nat_lit 276,AV) ::
 (nat_lit 277,x0) ::
 (nat_lit 279,zW) ::
 (nat_lit 280,x0) ::
 (nat_lit 282,Bx) ::
 (nat_lit 283,BS) ::
 (nat_lit 284,x0) ::
 (nat_lit 286,Bs) ::
 (nat_lit 287,x0) ::
 (nat_lit 289,AD) ::
 (nat_lit 290,Am) ::
 (nat_lit 291,x0) ::
 (nat_lit 293,AH) ::
 (nat_lit 294,x0) ::
 (nat_lit 296,A6) ::
 (nat_lit 297,Aj) ::
 (nat_lit 298,x0) ::
 (nat_lit 300,Aa) ::
 (nat_lit 301,x0) ::
 (nat_lit 303,zX) ::
 (nat_lit 304,zO) ::
 (nat_lit 305,x0) ::
 (nat_lit 307,AM) ::
 (nat_lit 308,x0) ::
 (nat_lit 310,z9) ::
 (nat_lit 311,Ag) ::
 (nat_lit 312,x0) ::
 (nat_lit 314,A5) ::
 (nat_lit 315,x0) ::
 (nat_lit 317,Bq) ::
 (nat_lit 318,z8) ::
 (nat_lit 319,x0) ::
 (nat_lit 321,AQ) ::
 (nat_lit 322,x0) ::
 (nat_lit 324,AK) ::
 (nat_lit 325,Ao) ::
 (nat_lit 326,x0) ::
 (nat_lit 329,Ab) ::
 (nat_lit 330,AJ) ::
 (nat_lit 331,x0) ::
 (nat_lit 334,Bf) ::
 (nat_lit 335,Aw)::[]
abbrev qq:Program:=PySem.W.view PySem.Challenge.pw_pebbletoll_k03_webs_refused [1,2,3,4,5,6,7,8,9,10,11,12,14,15,16,17,18,19,20,21,22,23,25,26,27,28,29,30,31,32,33,34,35,36,37,38,39]
abbrev asK:List Addr:=[2,3,15,22,23,24,25,28,35,36,37,40,47,48,49,52,59,60,61,64,71,72,73,76,83,84,85,88,95,96,97,100,107,108,109,112,119,120,121,124,131,132,133,136,143,145,146,148,149,150,151,152,155,162,164,165,167,168,169,170,171,181,184,185,186,187,188,189,190,193,195,196,198,199,200,202,203,205,206,207,209,210,212,213,214,216,217,219,220,221,223,224,226,227,228,230,231,233,234,235,237,238,240,241,242,244,245,247,248,249,251,252,254,255,256,258,259,261,262,263,265,266,268,269,270,272,273,275,276,277,279,280,282,283,284,286,287,289,290,291,293,294,296,297,298,300,301,303,304,305,307,308,310,311,312,314,315,317,318,319,321,322,324,325,326,329,330,331,334,335]
theorem asK_eq:∀ P,asK=(KK P).map (·.1):=fun _=>by kernel_rfl
theorem Eg (w:World):(fun os=>((staticsOk (importedModules PySem.Challenge.pw_pebbletoll_k03_webs_refused.main.body) (boot_heap w.params) (hf w.params) && namesBound PySem.Challenge.pw_pebbletoll_k03_webs_refused (hf w.params) && gensDone (Shared.mk (Hd.hf w.params) (.mk []) (.mk 0 0 0 0) 647 os) && laidKept (boot_heap w.params) (hf w.params)),openSeen qq [] (importedModules PySem.Challenge.pw_pebbletoll_k03_webs_refused.main.body) (fun s=>PySem.W.xlAt Hd.qq [] s && PySem.W.recOk (PySem.W.RowW.records (PySem.W.OpenRow.toRowW (PySem.Challenge.rw_pebbletoll_k03_webs_refused).row)) s) true (Shared.mk (Hd.hf w.params) (.mk []) (.mk 0 0 0 0) 647 os),Hook.obs (PySem.W.kHook Hd.KK Hd.asK Hd.asK_eq) (Shared.mk (Hd.hf w.params) (.mk []) (.mk 0 0 0 0) 647 os)))=fun _=>(true,openGood qq [],Hook.val (PySem.W.kHook Hd.KK Hd.asK Hd.asK_eq) w):=by kernel_rfl
theorem left:PySem.W.LeftO (PySem.Challenge.rw_pebbletoll_k03_webs_refused).row.prog qq [] (fun s=>PySem.W.xlAt Hd.qq [] s && PySem.W.recOk (PySem.W.RowW.records (PySem.W.OpenRow.toRowW (PySem.Challenge.rw_pebbletoll_k03_webs_refused).row)) s) (PySem.W.Hook.obs (PySem.W.kHook Hd.KK Hd.asK Hd.asK_eq)) (PySem.W.Hook.val (PySem.W.kHook Hd.KK Hd.asK Hd.asK_eq)) 7190:=LeftO.of_pieces opn siz run (by decide) Eg
end Hd
set_option Elab.async false
set_option linter.all false
set_option maxRecDepth 100000
namespace L2
open PySem PySem.Spec PyProof.Rows
abbrev Key:=Sum Int Str
def pF:Key->Value->Bool
 | .inl k,v=>Value.isInt k v
 | .inr x,v=>Value.isStrOf x v
def Eu (w:World):Key->Int
 | .inl k=>hashInt k
 | .inr x=>hashStr w x
theorem cH:∀ {k:Key} {v:Value},pF k v=true->(∃ i t,k=Sum.inl i/\v=Value.int i t)\/(∃ x t,k=Sum.inr x/\v=Value.str x t)
 | .inl i,v,h=>by
   obtain ⟨t,e⟩:=Value.isInt_shape (k:=i) (v:=v) h;exact .inl ⟨i,t,rfl,e⟩
 | .inr x,v,h=>by
   obtain ⟨t,e⟩:=Value.isStrOf_shape (x:=x) (v:=v) h;exact .inr ⟨x,t,rfl,e⟩
theorem yJ (i:Int) (t:Tok):pF (.inl i) (.int i t)=true:=by simp [pF,Value.isInt]
theorem y4 (x:Str) (t:Tok):pF (.inr x) (.str x t)=true:=by simp [pF,Value.isStrOf]
theorem CW (a b:Int):decide ((Sum.inl a:Key)=Sum.inl b)=(a == b):=by
 by_cases e:a=b
 . subst e;simp
 . have h:¬ (Sum.inl a:Key)=Sum.inl b:=fun q=>e (Sum.inl.inj q);rw [decide_eq_false h];exact (beq_eq_false_iff_ne.mpr e).symm
theorem DA (a b:Str):decide ((Sum.inr a:Key)=Sum.inr b)=decide (a=b):=by
 by_cases e:a=b
 . subst e;simp
 . have h:¬ (Sum.inr a:Key)=Sum.inr b:=fun q=>e (Sum.inr.inj q);rw [decide_eq_false h,decide_eq_false e]
theorem D4 (a:Int) (b:Str):decide ((Sum.inl a:Key)=Sum.inr b)=false:=decide_eq_false (fun q=>nomatch q)
theorem Du (a:Str) (b:Int):decide ((Sum.inr a:Key)=Sum.inl b)=false:=decide_eq_false (fun q=>nomatch q)
def b9 (prog:Program) (w:World):PySem.KeyKind prog w Key where
 is:=pF
 hash:=Eu w
 inj:=fun v a b ha hb=>by
   rcases cH ha with ⟨i,t,rfl,rfl⟩|⟨x,t,rfl,rfl⟩
   . rcases cH hb with ⟨j,u,rfl,e⟩|⟨y,u,rfl,e⟩
     . injection e with e1 _;rw [e1]
     . exact nomatch e
   . rcases cH hb with ⟨j,u,rfl,e⟩|⟨y,u,rfl,e⟩
     . exact nomatch e
     . injection e with e1 _;rw [e1]
 byValue:=fun k v h=>by
   rcases cH h with ⟨i,t,rfl,rfl⟩|⟨x,t,rfl,rfl⟩ <;> rfl
 pyHash:=fun hv h=>by
   rcases cH hv with ⟨i,t,rfl,rfl⟩|⟨x,t,rfl,rfl⟩
   . exact wpAny_pyHash_int h
   . exact wpAny_pyHash_str h
 eqBool:=fun hu hv h=>by
   rcases cH hu with ⟨i,t,rfl,rfl⟩|⟨x,t,rfl,rfl⟩
   . rcases cH hv with ⟨j,u,rfl,rfl⟩|⟨y,u,rfl,rfl⟩
     . rw [CW] at h;exact wpAny_eqBool_int h
     . rw [D4] at h;exact SeqAt.EqAt.int_str i t y u _ _ _ _ h
   . rcases cH hv with ⟨j,u,rfl,rfl⟩|⟨y,u,rfl,rfl⟩
     . rw [Du] at h;exact SeqAt.EqAt.str_int x t j u _ _ _ _ h
     . rw [DA] at h;exact wpAny_eqBool_str h
 «strs»:=fun k x t v h=>by
   rcases cH h with ⟨i,u,rfl,e⟩|⟨y,u,rfl,e⟩
   . exact nomatch e
   . injection e with e1 _
     subst e1;cases v <;> rfl
theorem wk (prog:Program) (w:World) (i:Int) (t:Tok):(b9 prog w).is (.inl i) (.int i t)=true:=yJ i t
theorem vy (prog:Program) (w:World) (x:Str) (t:Tok):(b9 prog w).is (.inr x) (.str x t)=true:=y4 x t
end L2
namespace L2
open PySem PySem.Spec PyProof.Rows
inductive V where
 | non|bl (b:Bool)|int (i:Int)|str (x:Str)|byt (b:Array UInt8)|flt (b:UInt64)|ref (a:Addr)|ty (n:String)
 deriving DecidableEq
def RelV:V->Value->Prop
 | .non,u=>u=Value.none
 | .bl b,u=>u=Value.bool b
 | .int i,u=>∃ t,u=Value.int i t
 | .str x,u=>∃ t,u=Value.str x t
 | .byt b,u=>∃ t,u=Value.bytes b t
 | .flt b,u=>∃ t,u=Value.float b t
 | .ref a,u=>u=Value.ref a
 | .ty n,u=>u=Value.type n
abbrev Vals:List V->List Value->Prop:=Paired RelV
theorem Vals.length {xs:List V} {us:List Value} (r:Vals xs us):xs.length=us.length:=Paired.length r
theorem Vals.get:∀ {xs:List V} {us:List Value} {i:Nat} {x:V},Vals xs us->xs[i]?=some x->∃ u,us[i]?=some u/\RelV x u
 | _,_,_,_,.nil,e=>by simp at e
 | _,_,0,_,.cons r _,e=>by simp at e;subst e;exact ⟨_,rfl,r⟩
 | _,_,i+1,x,.cons _ t,e=>by
   obtain ⟨u,h1,h2⟩:=Vals.get (i:=i) (x:=x) t (by simpa using e);exact ⟨u,by simpa using h1,h2⟩
theorem Vals.set {x:V} {u:Value} (r:RelV x u):∀ {xs:List V} {us:List Value} (i:Nat),Vals xs us->Vals (xs.set i x) (us.set i u)
 | _,_,_,.nil=>.nil
 | _,_,0,.cons _ t=>.cons r t
 | _,_,i+1,.cons q t=>.cons q (Vals.set r i t)
theorem Vals.append:∀ {xs ys:List V} {us ws:List Value},Vals xs us->Vals ys ws->Vals (xs++ys) (us++ws)
 | _,_,_,_,.nil,s=>s
 | _,_,_,_,.cons r t,s=>.cons r (Vals.append t s)
theorem Vals.take:∀ {xs:List V} {us:List Value} (n:Nat),Vals xs us->Vals (xs.take n) (us.take n)
 | _,_,0,_=>.nil
 | _,_,_+1,.nil=>.nil
 | _,_,n+1,.cons r t=>.cons r (Vals.take n t)
theorem Vals.drop:∀ {xs:List V} {us:List Value} (n:Nat),Vals xs us->Vals (xs.drop n) (us.drop n)
 | _,_,0,r=>r
 | _,_,_+1,.nil=>.nil
 | _,_,n+1,.cons _ t=>Vals.drop n t
def RelO:Option V->Option Value->Prop
 | some v,some u=>RelV v u
 | none,none=>True
 | _,_=>False
def KV {κ:Type}:List (κ × V)->List (κ × Value)->Prop:=Paired fun (p:κ × V) (q:κ × Value)=>p.1=q.1/\RelV p.2 q.2
def kV:Key->V
 | .inl i=>.int i
 | .inr x=>.str x
inductive HO where
 /-- a list -/
 | lst (xs:List V)
 /-- a tuple (never changes) -/
 | tup (xs:List V)
 /-- a dict whose keys are ints and texts;one whose keys are tuples of ints and texts (the empty one is both) -/
 | dK (kvs:List (Key × V))|dT (kvs:List (List Key × V))
 /-- a set of ints: its members,its size -/
 | set (S:Int->Bool) (n:Nat)
 /-- an instance of the class at C,its dict at dx,its attributes -/
 | ins (C dx:Addr) (fs:List (Str × V))
 /-- the dict of the instance at x -/
 | own (x:Addr)
 /-- the dict of an exception -/
 | xd (fs:List (Str × V))
 /-- a bound method,f of x -/
 | met (f x:Addr)
 /-- a range object lo,lo+1,.. below hi -/
 | rng (lo hi:Int)
 /-- a thing that is known to the object (the script;a dict while a loop walks it): read,never written while it is so -/
 | frz (o:Obj) (u:HO)
 /-- a code object's table -/
 | tbl (ps:Array Value)
 /-- any other thing,by what is true of its one object (a def of one's own: SetO a S n:=HO.ext fun h=>..) -/
 | ext (φ:Heap->Prop)
abbrev Hp:=Addr->Option HO
def upd (H:Hp) (a:Addr) (o:HO):Hp:=fun b=>if b=a then some o else H b
theorem ag {H:Hp} {a:Addr} {o:HO}:upd H a o a=some o:=by unfold upd;rw [if_pos rfl]
theorem ao {H:Hp} {a b:Addr} {o:HO} (h:b≠a):upd H a o b=H b:=by unfold upd;rw [if_neg h]
theorem cw {H:Hp} {a:Addr} {o u:HO}:upd (upd H a o) a u=upd H a u:=by
 funext b;unfold upd;split <;> rfl
theorem pz {H:Hp} {a b:Addr} {o u:HO} (h:H a=some o) (h':H b=some u) (d:o≠u):a≠b:=by
 intro e;subst e;rw [h] at h';exact d (Option.some.inj h')
theorem az {H:Hp} {a b:Addr} {o:HO} (h:H a=some o) (h':H b=none):a≠b:=by
 intro e;subst e;rw [h] at h';cases h'
section
variable (P:Program) (w:World)
def ObjOk (H:Hp) (h:Heap) (a:Addr):HO->Prop
 | .lst xs=>xs.length<=sizeLine/\∃ (its:List Value) (n:Nat),Vals xs its/\h.get? a=some { cls:=.type "list",data:=.seq its.toArray n }
 | .tup xs=>xs.length<=sizeLine/\∃ its:List Value,Vals xs its/\IsTup h a its.toArray
 | .dK kvs=>kvs.length<=sizeLine/\(a == sysModules)=false/\∃ vs,KV kvs vs/\h.DictOf (b9 P w) a vs
 | .dT kvs=>kvs.length<=sizeLine/\(a == sysModules)=false/\∃ xs:List (List Key × Addr × Value),
     Paired (fun (p:List Key × V) (q:List Key × Addr × Value)=>p.1=q.1/\H q.2.1=some (.tup (p.1.map kV))/\RelV p.2 q.2.2) kvs xs /\
     ∃ o es ep,h.get? a=some o/\o.ExactDict/\o.data=.dict es ep/\es.toList=xs.map (entryOfKey (tupleKind (b9 P w)))/\(xs.map (·.1)).Nodup
 | .set S n=>h.SetOf (intKind P w) a S n
 | .ins C dx fs=>H dx=some (.own a)/\fs.length<=1000/\dx≠a/\h.get? a=some (PySem.W.instObj C dx) /\
     ∃ mA,h.Ns1 dx mA/\(∀ f,RelO (fs.lookup f) (mA f))/\PySem.Within mA (fs.map (·.1))
 | .own _=>∃ o,h.get? a=some o
 | .xd fs=>∃ mA,h.Ns1 a mA/\∀ f,RelO (fs.lookup f) (mA f)
 | .rng lo hi=>∃ t u v,h.get? a=some { cls:=.type "range",data:=.fields #[.int lo t,.int hi u,.int 1 v] }
 | .frz o u=>h.get? a=some o/\ObjOk H h a u
 | .tbl ps=>h.get? a=some { cls:=.none,data:=.fields ps }
 | .met f x=>h.get? a=some (PySem.W.methodObj (.ref f) (.ref x))
 | .ext φ=>φ h/\(∃ o,h.get? a=some o)/\∀ h1 h2:Heap,φ h1->(∀ o,h1.get? a=some o->h2.get? a=some o)->φ h2
def HOk (H:Hp) (h:Heap):Prop:=∀ a o,H a=some o->ObjOk P w H h a o
end
section
variable {P:Program} {w:World} {H H':Hp} {h h':Heap} {a:Addr} {o:HO}
theorem ObjOk.lt (x:ObjOk P w H h a o):a<h.objs.size:=by
 cases o with
 | lst xs=>obtain ⟨_,_,_,_,e⟩:=x;exact Heap.lt_size e
 | tup xs=>obtain ⟨_,_,_,p⟩:=x;exact p.lt
 | dK kvs=>obtain ⟨_,_,_,_,o,_,_,e,_⟩:=x;exact Heap.lt_size e
 | dT kvs=>obtain ⟨_,_,_,_,o,_,_,e,_⟩:=x;exact Heap.lt_size e
 | set S n=>obtain ⟨o,_,_,_,e,_⟩:=x;exact Heap.lt_size e
 | ins C dx fs=>obtain ⟨_,_,_,e,_⟩:=x;exact Heap.lt_size e
 | own y=>obtain ⟨_,e⟩:=x;exact Heap.lt_size e
 | xd fs=>obtain ⟨_,⟨_,_,_,e,_⟩,_⟩:=x;exact Heap.lt_size e
 | rng lo hi=>obtain ⟨_,_,_,e⟩:=x;exact Heap.lt_size e
 | frz ob u=>obtain ⟨e,_⟩:=x;exact Heap.lt_size e
 | tbl ps=>exact Heap.lt_size (show h.get? a=some _ from x)
 | met f y=>exact Heap.lt_size (show h.get? a=some _ from x)
 | ext φ=>obtain ⟨_,⟨_,e⟩,_⟩:=x;exact Heap.lt_size e
theorem Paired.mapP {α β:Type} {F G:α->β->Prop}:∀ {l₁:List α} {l₂:List β},Paired F l₁ l₂->(∀ a b,F a b->G a b)->Paired G l₁ l₂
 | _,_,.nil,_=>.nil
 | _,_,.cons r t,f=>.cons (f _ _ r) (Paired.mapP t f)
theorem Paired.imp' {α β:Type} {F G:α->β->Prop} (f:∀ a b,F a b->G a b) {l₁:List α} {l₂:List β} (r:Paired F l₁ l₂):Paired G l₁ l₂:=Paired.mapP r f
theorem ObjOk.stay (x:ObjOk P w H h a o) (k:∀ b u,(b=a\/H b=some (.own a))->h.get? b=some u->h'.get? b=some u)
   (ho:∀ b,H b=some (.own a)->H' b=some (.own a)) (ht:∀ b xs,H b=some (.tup xs)->H' b=some (.tup xs)):ObjOk P w H' h' a o:=by
 induction o with
 | lst xs=>obtain ⟨z,its,n,r,e⟩:=x;exact ⟨z,its,n,r,k _ _ (.inl rfl) e⟩
 | tup xs=>obtain ⟨z,its,r,ob,e,c⟩:=x;exact ⟨z,its,r,ob,k _ _ (.inl rfl) e,c⟩
 | dK kvs=>obtain ⟨z,y,vs,r,ob,es,ep,e,c⟩:=x;exact ⟨z,y,vs,r,ob,es,ep,k _ _ (.inl rfl) e,c⟩
 | dT kvs =>
   obtain ⟨z,y,xs,r,ob,es,ep,e,c⟩:=x;exact ⟨z,y,xs,Paired.mapP r fun p q z=>⟨z.1,ht _ _ z.2.1,z.2.2⟩,ob,es,ep,k _ _ (.inl rfl) e,c⟩
 | set S n=>obtain ⟨ob,es,ep,t,e,c⟩:=x;exact ⟨ob,es,ep,t,k _ _ (.inl rfl) e,c⟩
 | ins C dx fs =>
   obtain ⟨d,z,ne,e,mA,⟨od,es,ep,e2,c⟩,r⟩:=x;exact ⟨ho _ d,z,ne,k _ _ (.inl rfl) e,mA,⟨od,es,ep,k _ _ (.inr d) e2,c⟩,r⟩
 | own y=>obtain ⟨ob,e⟩:=x;exact ⟨ob,k _ _ (.inl rfl) e⟩
 | xd fs=>obtain ⟨mA,⟨od,es,ep,e,c⟩,r⟩:=x;exact ⟨mA,⟨od,es,ep,k _ _ (.inl rfl) e,c⟩,r⟩
 | rng lo hi=>obtain ⟨t,u,v,e⟩:=x;exact ⟨t,u,v,k _ _ (.inl rfl) e⟩
 | frz ob u ih=>obtain ⟨e,q⟩:=x;exact ⟨k _ _ (.inl rfl) e,ih q⟩
 | tbl ps =>
   have e:h.get? a=some { cls:=.none,data:=.fields ps }:=x;show h'.get? a=some { cls:=.none,data:=.fields ps };exact k a _ (.inl rfl) e
 | met f y =>
   have e:h.get? a=some (PySem.W.methodObj (.ref f) (.ref y)):=x;show h'.get? a=some (PySem.W.methodObj (.ref f) (.ref y));exact k a _ (.inl rfl) e
 | ext φ=>obtain ⟨p,⟨o,e⟩,st⟩:=x;exact ⟨st _ _ p fun o q=>k _ _ (.inl rfl) q,⟨o,k _ _ (.inl rfl) e⟩,st⟩
theorem HOk.lt (x:HOk P w H h) (e:H a=some o):a<h.objs.size:=(x a o e).lt
theorem HOk.fresh (x:HOk P w H h) (e:h.objs.size<=a):H a=none:=by
 cases q:H a with
 | none=>rfl
 | some u=>exact absurd (Nat.lt_of_lt_of_le (x.lt q) e) (Nat.lt_irrefl _)
theorem HOk.kept (x:HOk P w H h) (k:∀ b u,h.get? b=some u->h'.get? b=some u):HOk P w H h':=fun a o e =>
 (x a o e).stay (fun b u _ q=>k b u q) (fun _ q=>q) fun _ _ q=>q
theorem HOk.laid (x:HOk P w H h) (k:∀ b u,h.get? b=some u->h'.get? b=some u) (hp:h.objs.size<=a) (new:ObjOk P w (upd H a o) h' a o):HOk P w (upd H a o) h':=fun b u e=>by
 have hn:=x.fresh hp;by_cases hb:b=a
 . subst hb;rw [ag] at e;cases e;exact new
 . rw [ao hb] at e;exact (x b u e).stay (fun c v _ q=>k c v q) (fun c q=>by rw [ao (az q hn)];exact q) fun c xs q=>by rw [ao (az q hn)];exact q
end
def Rd (H:Hp) (a:Addr) (u:HO):Prop:=H a=some u\/∃ o,H a=some (.frz o u)
theorem Rd.ok {P:Program} {w:World} {H:Hp} {h:Heap} {a:Addr} {u:HO} (r:Rd H a u) (x:HOk P w H h):ObjOk P w H h a u:=by
 rcases r with r|⟨o,r⟩
 . exact x a u r
 . obtain ⟨_,q⟩:=x a _ r;exact q
def Mut:Option HO->Prop
 | some (.lst _)=>True
 | some (.dK _)=>True
 | some (.dT _)=>True
 | some (.set _ _)=>True
 | some (.ins _ _ _)=>True
 | some (.ext _)=>True
 | _=>False
section
variable {P:Program} {w:World} {H:Hp} {h h':Heap} {x e:Addr} {o':HO}
theorem HOk.write (ok:HOk P w H h) (mu:Mut (H x)) (he:e=x\/H e=some (.own x)) (k:∀ b u,b≠e->h.get? b=some u->h'.get? b=some u) (heo:∃ u,h'.get? e=some u)
   (new:ObjOk P w (upd H x o') h' x o'):HOk P w (upd H x o') h':=fun b u q=>by
 have nown:∀ c y,H c=some (.own y)->c≠x:=fun c y r z=>by subst z;rw [r] at mu;exact mu
 have ntup:∀ c xs,H c=some (.tup xs)->c≠x:=fun c xs r z=>by subst z;rw [r] at mu;exact mu
 by_cases hb:b=x
 . subst hb;rw [ag] at q;cases q;exact new
 . rw [ao hb] at q;by_cases hbe:b=e
   . have q':H b=some (.own x):=by
       rcases he with z|z
       . exact absurd (hbe.trans z) hb
       . rw [hbe];exact z
     rw [q] at q';cases q';obtain ⟨v,hv⟩:=heo;exact ⟨v,by rw [hbe];exact hv⟩
   . refine (ok b u q).stay (fun c v hc r=>k c v ?_ r) (fun c r=>by rw [ao (nown c b r)];exact r) fun c xs r=>by rw [ao (ntup c xs r)];exact r
     rcases hc with rfl|hc
     . exact hbe
     . rintro rfl;rcases he with z|z
       . exact nown c b hc z
       . rw [hc] at z;cases z;exact hb rfl
end
structure Un (fs ex:List Addr) (H H':Hp) (h h':Heap):Prop where
 keep:∀ b o,h.get? b=some o->H b=none->b ∉ fs->b ∉ ex->h'.get? b=some o
 slot:∀ b o,h.get? b=some o->H b=none->b∈fs->b ∉ ex->∃ sl,h'.get? b=some { o with slots:=sl }
 free:∀ b o,h.get? b=some o->H b=none->b ∉ ex->H' b=none
 there:∀ b o,h.get? b=some o->b ∉ ex->∃ o',h'.get? b=some o'
 tups:∀ b xs,H b=some (.tup xs)->H' b=some (.tup xs)
 frzs:∀ b o u,H b=some (.frz o u)->H' b=some (.frz o u)
 tbls:∀ b ps,H b=some (.tbl ps)->∃ more,H' b=some (.tbl (ps++more))
section
variable {fs fs' ex ex':List Addr} {H H1 H2:Hp} {h h1 h2 h':Heap} {a x e:Addr} {o:HO}
theorem Un.any (u:Un fs ex H H1 h h1) {b:Addr} {ob:Obj} (q:h.get? b=some ob) (n:H b=none) (hx:b ∉ ex):∃ sl,h1.get? b=some { ob with slots:=sl }:=by
 by_cases hb:b∈fs
 . exact u.slot b ob q n hb hx
 . exact ⟨ob.slots,u.keep b ob q n hb hx⟩
theorem Un.kept (k:∀ b u,h.get? b=some u->h'.get? b=some u):Un fs ex H H h h' :=
 ⟨fun b ob q _ _ _=>k b ob q,fun b ob q _ _ _=>⟨ob.slots,k b ob q⟩,fun _ _ _ n _=>n,fun b ob q _=>⟨ob,k b ob q⟩,fun _ _ q=>q,fun _ _ _ q=>q,fun _ ps q=>⟨#[],by rw [q];simp⟩⟩
theorem Un.refl:Un fs ex H H h h:=Un.kept fun _ _ q=>q
theorem Un.laid (k:∀ b u,h.get? b=some u->h'.get? b=some u) (hp:h.objs.size<=a) (hn:H a=none):Un fs ex H (upd H a o) h h' where
 keep:=fun b u q _ _ _=>k b u q
 slot:=fun b u q _ _ _=>⟨u.slots,k b u q⟩
 free:=fun b u q n _=>by rw [ao (Nat.ne_of_lt (Nat.lt_of_lt_of_le (Heap.lt_size q) hp))];exact n
 there:=fun b u q _=>⟨u,k b u q⟩
 tups:=fun b xs q=>by rw [ao (az q hn)];exact q
 frzs:=fun b u xs q=>by rw [ao (az q hn)];exact q
 tbls:=fun b ps q=>⟨#[],by rw [ao (az q hn),q];simp⟩
theorem Un.write (mu:Mut (H x)) (he:e=x\/H e=some (.own x)) (k:∀ b u,b≠e->h.get? b=some u->h'.get? b=some u) (heo:∃ u,h'.get? e=some u):Un fs ex H (upd H x o) h h':=by
 have hx:∀ b,H b=none->b≠x:=fun b n z=>by subst z;rw [n] at mu;exact mu
 have hb:∀ b,H b=none->b≠e:=fun b n z=>by
   subst z;rcases he with r|r
   . exact hx b n r
   . rw [n] at r;cases r
 have hm:∀ b u,H b=some u->¬ Mut (some u)->b≠x:=fun b u q nm z=>by subst z;rw [q] at mu;exact nm mu
 refine ⟨fun b u q n _ _=>k b u (hb b n) q,fun b u q n _ _=>⟨u.slots,k b u (hb b n) q⟩,fun b u q n _=>by rw [ao (hx b n)];exact n,fun b u q _=>?_,
   fun b xs q=>by rw [ao (hm b _ q fun z=>z)];exact q,fun b u xs q=>by rw [ao (hm b _ q fun z=>z)];exact q,fun b ps q=>⟨#[],by rw [ao (hm b _ q fun z=>z),q];simp⟩⟩
 by_cases hbe:b=e
 . subst hbe;exact heo
 . exact ⟨u,k b u hbe q⟩
end
def trk (h:Heap) (H:Hp):List Addr:=(List.range h.objs.size).filter fun a=>(H a).isSome
def lu (h:Heap) (H:Hp):Heap:=PySem.W.hideAll h (trk h H)
theorem y6 (h:Heap) (H:Hp):(lu h H).objs.size=h.objs.size:=PySem.W.hideAll_size _ _
theorem Af {h:Heap} {H:Hp} {b:Addr} {o:Obj} (e:h.get? b=some o) (n:H b=none):(lu h H).get? b=some o :=
 PySem.W.hideAll_get _ e fun hm=>by
   have q:(H b).isSome=true:=(List.mem_filter.mp hm).2;rw [n] at q;simp at q
theorem Cz {h:Heap} {H:Hp} {b:Addr} {o:Obj} (e:(lu h H).get? b=some o):h.get? b=some o/\H b=none:=by
 have e':h.get? b=some o:=PySem.W.of_hideAll (trk h H) e;refine ⟨e',?_⟩;cases q:H b with
 | none=>rfl
 | some x =>
   have hm:b∈trk h H:=List.mem_filter.mpr ⟨List.mem_range.mpr (Heap.lt_size e'),by simp [q]⟩;have z:(lu h H).get? b=none:=PySem.W.hideAll_none (trk h H) hm;rw [z] at e;cases e
def CN (g h:Heap) (L:Addr):List (Addr × Obj):=(List.range h.objs.size).filterMap fun a=>if a=L\/(g.get? a).isSome=true then none else (h.get? a).map fun o=>(a,o)
def dU (g h:Heap) (L d:Addr):List (Addr × Obj):=(CN g h L).filter fun p=>decide (p.1≠d)
end L2
namespace L2
open PySem PySem.Spec PyProof.Rows
structure Mod (K:PySem.W.Frag) (mg:Str->Option Value) (base:Heap):Prop where
 kin:K.In base
 glob:base.Ns mainGlobals mg
 blt:∃ mb,base.Ns builtinsNs mb/\∀ x:Str,x≠"__name__"->mb x=bootBuiltins x
 nolimit:base.NoLimit
structure Cx where
 prog:Program
 w:World
 K:PySem.W.Frag
 mg:Str->Option Value
 base:Heap
 A:Around
 N:List Str
 s₀:Shared
 H₀:Hp
 env:Env
 outer:List Env
 stack:List Env
 ex:List Addr
 fn:Str->Bool
 calm:Bool
 pn:List (Addr × Obj)
 xe:Value->Shared->Prop
def frs (l:List Env):List Addr:=l.filterMap (·.frame)
abbrev Cx.fs (X:Cx):List Addr:=frs X.outer
def Vis (sc:Scope) (x:Str):Prop:=sc.names.lookup x=some .local\/sc.names.lookup x=some .cell\/sc.names.lookup x=some .free
def Loc (sc:Scope) (x:Str):Prop:=sc.names.lookup x=some .local\/sc.names.lookup x=some .cell
def EB (env:Env) (h:Heap) (m:Str->Option Value) (x:Str) (u:Value):Prop :=
 (env.kindOf x=some .local/\m x=some u)\/((env.kindOf x=some .cell\/env.kindOf x=some .free)/\∃ c,env.cells.lookup x=some c/\h.IsCell c (some u))
structure Cx.Ok (X:Cx):Prop where
 mod:Mod X.K X.mg X.base
 kind:X.env.scope.kind=.function
 glob:X.env.globals=mainGlobals
 blt:X.env.builtins=builtinsNs
 above:X.s₀.heap.objs.size<=X.env.locals
 inj:∀ x y c,X.env.cells.lookup x=some c->X.env.cells.lookup y=some c->x=y
 has:∀ x,(X.env.kindOf x=some .cell\/X.env.kindOf x=some .free)->∃ c,X.env.cells.lookup x=some c
 cab:∀ x c,X.fn x=true->X.env.cells.lookup x=some c->X.s₀.heap.objs.size<=c
 hd:X.calm=true->X.A.handled=none
 frames:X.A.frames=some X.stack
 stk:X.stack=X.outer\/(X.stack=X.env::X.outer/\X.env.frame=some X.env.locals)
 exf:∀ b∈X.ex,b≠X.env.locals/\∀ x c,X.env.cells.lookup x=some c->c≠b
 bs:∀ b o,X.base.get? b=some o->X.s₀.heap.get? b=some o/\X.H₀ b=none
 bsz:X.base.objs.size<=X.s₀.heap.objs.size
 noex:∀ b o,X.base.get? b=some o->b ∉ X.ex
 exfs:∀ b∈X.ex,b ∉ X.fs
 funs:X.s₀.heap.FunFrames X.base X.outer
 frf:∀ b∈X.fs,X.H₀ b=none
structure Inv (X:Cx) (pins:List (Addr × Obj)) (σ:List (Option V)) (H:Hp) (s:Shared):Prop where
 ok:X.Ok
 os:s.os=X.s₀.os
 bare:AllBare s.gens
 base:Un X.fs X.ex X.H₀ H X.s₀.heap s.heap
 loc:∃ m,s.heap.Ns X.env.locals m/\∀ (i:Nat) (x:Str) (v:V),X.N[i]?=some x->σ[i]?=some (some v)->Vis X.env.scope x->∃ u,RelV v u/\EB X.env s.heap m x u
 cell:∀ x c,X.env.cells.lookup x=some c->∃ v,s.heap.IsCell c v
 free:H X.env.locals=none
 freeC:∀ x c,X.env.cells.lookup x=some c->H c=none
 pin:∀ p∈X.pn++pins,s.heap.get? p.1=some p.2/\H p.1=none/\p.1≠X.env.locals/\p.1 ∉ X.fs/\∀ v,p.2.data≠.cell v
 hok:HOk X.prog X.w H s.heap
 len:σ.length=X.N.length
section
variable {X:Cx} {pins:List (Addr × Obj)} {σ:List (Option V)} {H H':Hp} {s:Shared} {h':Heap}
theorem Cx.Ok.nofr (ok:X.Ok) {b:Addr} {o:Obj} (e:X.base.get? b=some o):b ∉ X.fs:=fun hb=>by
 have:=(ok.funs.mem hb).1;rw [e] at this;cases this
theorem Inv.bs (I:Inv X pins σ H s):∀ b o,X.base.get? b=some o->s.heap.get? b=some o/\H b=none:=fun b o e =>
 ⟨I.base.keep b o (I.ok.bs b o e).1 (I.ok.bs b o e).2 (I.ok.nofr e) (I.ok.noex b o e),I.base.free b o (I.ok.bs b o e).1 (I.ok.bs b o e).2 (I.ok.noex b o e)⟩
theorem Inv.bk (I:Inv X pins σ H s):∀ b o,X.base.get? b=some o->s.heap.get? b=some o:=fun b o e=>(I.bs b o e).1
theorem Inv.mod (I:Inv X pins σ H s):Mod X.K X.mg X.base:=I.ok.mod
theorem Inv.kIn (I:Inv X pins σ H s):X.K.In s.heap:=I.ok.mod.kin.keeps I.bk
theorem Inv.lt (I:Inv X pins σ H s):X.env.locals<s.heap.objs.size:=let ⟨_,hn,_⟩:=I.loc;hn.lt
theorem Inv.sz (I:Inv X pins σ H s):X.s₀.heap.objs.size<=s.heap.objs.size:=Nat.le_trans I.ok.above (Nat.le_of_lt I.lt)
theorem Inv.nofs (I:Inv X pins σ H s) {a:Addr} (h:s.heap.objs.size<=a):a ∉ X.fs:=fun hb=>by
 obtain ⟨_,o,ho,_⟩:=I.ok.funs.mem hb;exact absurd (Nat.lt_of_lt_of_le (Heap.lt_size ho) (Nat.le_trans I.sz h)) (Nat.lt_irrefl _)
theorem Inv.cne (I:Inv X pins σ H s):∀ x c,X.env.cells.lookup x=some c->c≠X.env.locals:=fun x c e z=>by
 obtain ⟨v,o,ho,hd⟩:=I.cell x c e;obtain ⟨m,⟨o',es,ep,ho',hd',_⟩,_⟩:=I.loc;rw [z,ho'] at ho;cases ho;rw [hd'] at hd;cases hd
theorem Inv.funs (I:Inv X pins σ H s):s.heap.FunFrames X.base X.outer:=by
 have all:∀ (l:List Env),(∀ b∈frs l,b∈X.fs)->X.s₀.heap.FunFrames X.base l->s.heap.FunFrames X.base l:=by
   intro l
   induction l with
   | nil=>intro _ _;trivial
   | cons env r ih =>
     intro hs hl;obtain ⟨hk,⟨L,o,hf,hn,ho,hd⟩,hr⟩:=hl;have hL:L∈X.fs:=hs L (by unfold frs;rw [List.filterMap_cons,hf];exact List.mem_cons_self);obtain ⟨sl,e⟩:=I.base.slot L o ho (I.ok.frf L hL) hL fun z=>I.ok.exfs L z hL;exact ⟨hk,⟨L,_,hf,hn,e,hd⟩,ih (fun b hb=>hs b (by unfold frs;rw [List.filterMap_cons,hf];exact List.mem_cons_of_mem _ hb)) hr⟩
 exact all X.outer (fun _ hb=>hb) I.ok.funs
theorem Inv.stack (I:Inv X pins σ H s):s.heap.FunFrames X.base X.stack:=by
 rcases I.ok.stk with e|⟨e,hf⟩
 . rw [e];exact I.funs
 . rw [e];obtain ⟨m,hn,_⟩:=I.loc;refine .cons (by rw [I.ok.kind];decide) hf hn ?_ I.funs;exact Heap.get?_none_of_le (Nat.le_trans I.ok.bsz I.ok.above)
theorem Inv.stkSub (I:Inv X pins σ H s):∀ b∈frs X.stack,b∈X.env.locals::X.fs:=fun b hb=>by
 rcases I.ok.stk with e|⟨e,hf⟩
 . rw [e] at hb;exact List.mem_cons_of_mem _ hb
 . rw [e] at hb;unfold frs at hb;rw [List.filterMap_cons,hf] at hb;exact hb
theorem Inv.stkFree (I:Inv X pins σ H s):∀ b∈frs X.stack,H b=none:=fun b hb=>by
 rcases List.mem_cons.mp (I.stkSub b hb) with e|hb
 . rw [e];exact I.free
 . obtain ⟨_,o,ho,_⟩:=I.ok.funs.mem hb;exact I.base.free b o ho (I.ok.frf b hb) fun z=>I.ok.exfs b z hb
theorem Inv.step {g':Array GenState} {t':Nat} {d':Drawn} {ch:List Addr} (I:Inv X pins σ H s)
   (hch:∀ b∈ch,(b∈X.ex\/X.s₀.heap.objs.size<=b)/\b≠X.env.locals/\(∀ x c,X.env.cells.lookup x=some c->c≠b)/\∀ p∈X.pn++pins,p.1≠b)
   (keep:∀ b o,b≠X.env.locals->b ∉ X.fs->b ∉ ch->s.heap.get? b=some o->H b=none->h'.get? b=some o)
   (slot:∀ b o,b≠X.env.locals->b∈X.fs->b ∉ ch->s.heap.get? b=some o->H b=none->∃ sl,h'.get? b=some { o with slots:=sl }) (free:∀ b o,b ∉ ch->s.heap.get? b=some o->H b=none->H' b=none)
   (there:∀ b o,b ∉ ch->s.heap.get? b=some o->∃ o',h'.get? b=some o')
   (tups:∀ b xs,H b=some (.tup xs)->H' b=some (.tup xs)) (frzs:∀ b o u,H b=some (.frz o u)->H' b=some (.frz o u)) (tbls:∀ b ps,H b=some (.tbl ps)->∃ more,H' b=some (.tbl (ps++more)))
   (ns:∀ m,s.heap.Ns X.env.locals m->h'.Ns X.env.locals m) (hok:HOk X.prog X.w H' h') (hg:AllBare g') :
   Inv X pins σ H' { s with heap:=h',gens:=g',drawn:=d',toks:=t' }:=by
 have neL:∀ b o,X.s₀.heap.get? b=some o->b≠X.env.locals:=fun b o e=>Nat.ne_of_lt (Nat.lt_of_lt_of_le (Heap.lt_size e) I.ok.above);have neC:∀ b o,X.s₀.heap.get? b=some o->b ∉ X.ex->b ∉ ch:=fun b o e hx hb=>by
   rcases (hch b hb).1 with z|z
   . exact hx z
   . exact absurd (Nat.lt_of_lt_of_le (Heap.lt_size e) z) (Nat.lt_irrefl _)
 have cellK:∀ x c,X.env.cells.lookup x=some c->∀ v,s.heap.IsCell c v->h'.IsCell c v:=fun x c e v ⟨o,ho,hd⟩=>by
   have nch:c ∉ ch:=fun z=>(hch c z).2.2.1 x c e rfl;by_cases hc:c∈X.fs
   . obtain ⟨sl,q⟩:=slot c o (I.cne x c e) hc nch ho (I.freeC x c e);exact ⟨_,q,hd⟩
   . exact ⟨o,keep c o (I.cne x c e) hc nch ho (I.freeC x c e),hd⟩
 refine ⟨I.ok,I.os,hg,⟨fun b o e n hb hx=>?_,fun b o e n hb hx=>?_,fun b o e n hx=>?_,fun b o e hx=>?_,fun b xs e=>tups b xs (I.base.tups b xs e),fun b o xs e=>frzs b o xs (I.base.frzs b o xs e),fun b ps e=>?_⟩,?_,fun x c e=>?_,?_,fun x c e=>?_,fun p hp=>?_,hok,I.len⟩
 . exact keep b o (neL b o e) hb (neC b o e hx) (I.base.keep b o e n hb hx) (I.base.free b o e n hx)
 . obtain ⟨sl,e1⟩:=I.base.slot b o e n hb hx;obtain ⟨sl',e2⟩:=slot b _ (neL b o e) hb (neC b o e hx) e1 (I.base.free b o e n hx);exact ⟨sl',e2⟩
 . obtain ⟨o',e1⟩:=I.base.there b o e hx;exact free b o' (neC b o e hx) e1 (I.base.free b o e n hx)
 . obtain ⟨o',e1⟩:=I.base.there b o e hx;exact there b o' (neC b o e hx) e1
 . obtain ⟨m1,e1⟩:=I.base.tbls b ps e;obtain ⟨m2,e2⟩:=tbls b _ e1;exact ⟨m1++m2,by rw [e2,Array.append_assoc]⟩
 . obtain ⟨m,hn,hl⟩:=I.loc;refine ⟨m,ns m hn,fun i x v e1 e2 e3=>?_⟩;obtain ⟨u,r,l⟩:=hl i x v e1 e2 e3;refine ⟨u,r,?_⟩;rcases l with l|⟨k,c,e,z⟩
   . exact .inl l
   . exact .inr ⟨k,c,e,cellK x c e _ z⟩
 . obtain ⟨v,z⟩:=I.cell x c e;exact ⟨v,cellK x c e v z⟩
 . obtain ⟨m,⟨o,_,_,ho,_⟩,_⟩:=I.loc;exact free _ o (fun z=>(hch _ z).2.1 rfl) ho I.free
 . obtain ⟨v,o,ho,hd⟩:=I.cell x c e;exact free c o (fun z=>(hch c z).2.2.1 x c e rfl) ho (I.freeC x c e)
 . obtain ⟨e,n,ne,nf,d⟩:=I.pin p hp;have nch:p.1 ∉ ch:=fun z=>(hch p.1 z).2.2.2 p hp rfl;exact ⟨keep p.1 p.2 ne nf nch e n,free p.1 p.2 nch e n,ne,nf,d⟩
theorem Inv.un {t':Nat} (I:Inv X pins σ H s) (u:Un X.fs [] H H' s.heap h') (hok:HOk X.prog X.w H' h'):Inv X pins σ H' { s with heap:=h',toks:=t' }:=by
 obtain ⟨m,⟨o,es,ep,ho,r⟩,_⟩:=id I.loc;obtain ⟨sl,hL⟩:=u.any ho I.free (by simp);exact I.step (g':=s.gens) (d':=s.drawn) (ch:=[]) (fun _ z=>nomatch z) (fun b o _ hb _ e n=>u.keep b o e n hb (by simp)) (fun b o _ hb _ e n=>u.slot b o e n hb (by simp)) (fun b o _ e n=>u.free b o e n (by simp)) (fun b o _ e=>u.there b o e (by simp)) u.tups u.frzs u.tbls (fun m' hm=>by
   obtain ⟨o',es',ep',ho',r'⟩:=hm;rw [ho] at ho';cases ho';exact ⟨_,es',ep',hL,r'⟩) hok I.bare
theorem Inv.call {g':Array GenState} {t':Nat} {d':Drawn} {ch:List Addr} (I:Inv X pins σ H s) (u:Un (frs X.stack) ch H H' s.heap h') (hok:HOk X.prog X.w H' h') (hg:AllBare g')
   (hch:∀ b∈ch,(b∈X.ex\/X.s₀.heap.objs.size<=b)/\b≠X.env.locals/\(∀ x c,X.env.cells.lookup x=some c->c≠b)/\∀ p∈X.pn++pins,p.1≠b) :
   Inv X pins σ H' { s with heap:=h',gens:=g',drawn:=d',toks:=t' }:=by
 obtain ⟨m,⟨o,es,ep,ho,r⟩,_⟩:=id I.loc;obtain ⟨sl,hL⟩:=u.any ho I.free fun z=>(hch _ z).2.1 rfl;exact I.step (ch:=ch) hch (fun b o hL hb hc e n=>u.keep b o e n (fun z=>(List.mem_cons.mp (I.stkSub b z)).elim hL hb) hc) (fun b o _ _ hc e n=>u.any e n hc) (fun b o hc e n=>u.free b o e n hc) (fun b o hc e=>u.there b o e hc) u.tups u.frzs u.tbls (fun m' hm=>by
   obtain ⟨o',es',ep',ho',r'⟩:=hm;rw [ho] at ho';cases ho';exact ⟨_,es',ep',hL,r'⟩) hok hg
theorem Inv.turned {t':Nat} {it:Addr} (I:Inv X pins σ H s) (k:∀ b o,b≠it->s.heap.get? b=some o->h'.get? b=some o) (hn:H it=none) (hL:it≠X.env.locals)
   (h1:it∈X.ex\/X.s₀.heap.objs.size<=it) (h2:∀ x c,X.env.cells.lookup x=some c->c≠it) (h3:∀ p∈X.pn++pins,p.1≠it):Inv X pins σ H { s with heap:=h',toks:=t' }:=by
 have nit:∀ b u,H b=some u->b≠it:=fun b u e z=>by rw [z,hn] at e;cases e
 refine I.step (g':=s.gens) (d':=s.drawn) (ch:=[it]) (fun b hb=>?_) (fun b o _ _ hc e _=>k b o (fun z=>hc (by simp [z])) e) (fun b o _ _ hc e _=>⟨o.slots,k b o (fun z=>hc (by simp [z])) e⟩) (fun _ _ _ _ n=>n)
   (fun b o hc e=>⟨o,k b o (fun z=>hc (by simp [z])) e⟩) (fun _ _ e=>e) (fun _ _ _ e=>e) (fun b ps e=>⟨#[],by rw [e];simp⟩) (fun m hm=>?_) (fun b u e=>?_) I.bare
 . have e:b=it:=by simpa using hb
   subst e;exact ⟨h1,hL,h2,h3⟩
 . obtain ⟨o,es,ep,ho,r⟩:=hm;exact ⟨o,es,ep,k _ o (Ne.symm hL) ho,r⟩
 . refine (I.hok b u e).stay (fun c v hc q=>k c v ?_ q) (fun _ q=>q) fun _ _ q=>q;rcases hc with z|z
   . rw [z];exact nit b u e
   . exact nit c _ z
theorem Inv.tok (I:Inv X pins σ H s) (t:Nat):Inv X pins σ H { s with toks:=t }:=I.un (h':=s.heap) (t':=t) Un.refl I.hok
theorem Inv.kept {t':Nat} (I:Inv X pins σ H s) (k:∀ b u,s.heap.get? b=some u->h'.get? b=some u):Inv X pins σ H { s with heap:=h',toks:=t' }:=I.un (Un.kept k) (I.hok.kept k)
theorem Inv.laid {a:Addr} {o:HO} {t':Nat} (I:Inv X pins σ H s) (k:∀ b u,s.heap.get? b=some u->h'.get? b=some u) (hp:s.heap.objs.size<=a) (new:ObjOk X.prog X.w (upd H a o) h' a o) :
   Inv X pins σ (upd H a o) { s with heap:=h',toks:=t' }:=I.un (Un.laid k hp (I.hok.fresh hp)) (I.hok.laid k hp new)
theorem Inv.write {x e:Addr} {o:HO} {t':Nat} (I:Inv X pins σ H s) (mu:Mut (H x)) (he:e=x\/H e=some (.own x)) (k:∀ b u,b≠e->s.heap.get? b=some u->h'.get? b=some u) (heo:∃ u,h'.get? e=some u)
   (new:ObjOk X.prog X.w (upd H x o) h' x o):Inv X pins σ (upd H x o) { s with heap:=h',toks:=t' }:=I.un (Un.write mu he k heo) (I.hok.write mu he k heo new)
theorem Inv.pins_of {pins':List (Addr × Obj)} (I:Inv X pins σ H s) (h:∀ p∈pins',s.heap.get? p.1=some p.2/\H p.1=none/\p.1≠X.env.locals/\p.1 ∉ X.fs/\∀ v,p.2.data≠.cell v):Inv X pins' σ H s :=
 ⟨I.ok,I.os,I.bare,I.base,I.loc,I.cell,I.free,I.freeC,fun p hp=>(List.mem_append.mp hp).elim (fun z=>I.pin p (List.mem_append_left _ z)) (h p),I.hok,I.len⟩
theorem qt {N:List Str} (hN:N.Nodup) {i j:Nat} {x:Str} (a:N[i]?=some x) (b:N[j]?=some x):i=j:=by
 obtain ⟨h1,e1⟩:=List.getElem?_eq_some_iff.mp a;obtain ⟨h2,e2⟩:=List.getElem?_eq_some_iff.mp b;exact (List.getElem_inj hN).mp (e1.trans e2.symm)
theorem tD {M:Model} {A:Around} {E:Value->Shared->Prop} {i:Nat} {x:Str} {v:V} {u:Value} {Q:Unit->Shared->Prop} (I:Inv X pins σ H s) (hN:X.N.Nodup) (hi:X.N[i]?=some x) (hx:Loc X.env.scope x) (r:RelV v u)
   (h:∀ s',Inv X pins (σ.set i (some v)) H s'->(∃ a,Heap.SameBut a s.heap s'.heap/\(a=X.env.locals\/X.env.cells.lookup x=some a))->Q () s') (hf:X.fn x=true\/X.env.scope.names.lookup x=some .local:=by first|exact .inl rfl|exact .inr rfl|assumption):wpAny M A (storeName X.env x u) Q E s:=by
 obtain ⟨m,hn,hl⟩:=id I.loc;have hcls:(X.env.scope.kind == .class || (X.env.scope.kind == .module && X.env.locals != X.env.globals))=false:=by rw [I.ok.kind];rfl
 have hiσ:i<σ.length:=by rw [I.len];exact (List.getElem?_eq_some_iff.mp hi).1
 have cne:=I.cne;have tracked:∀ {a:Addr} {h':Heap},(∃ o,s.heap.get? a=some o/\H a=none)->Heap.SameBut a s.heap h'->HOk X.prog X.w H h':=fun {a h'} ha hs b ob e=>by
   obtain ⟨_,_,hfree⟩:=ha;refine (I.hok b ob e).stay (fun c w' hc q=>(hs.2 c ?_).trans q) (fun _ q=>q) fun _ _ q=>q;rintro rfl;rcases hc with rfl|hc
   . rw [hfree] at e;cases e
   . rw [hfree] at hc;cases hc
 rcases hx with hk|hk
 . refine wpAny_storeName_local hk hn (fun h' hn' hs=>?_) hcls;obtain ⟨oL,_,_,hoL,_⟩:=id hn;refine h _ ⟨I.ok,I.os,I.bare,⟨fun b o e n hb hx=>?_,fun b o e n hb hx=>?_,I.base.free,fun b o e hx=>?_,I.base.tups,I.base.frzs,I.base.tbls⟩,⟨_,hn',fun j y v' e1 e2 e3=>?_⟩,fun y c e=>?_,I.free,I.freeC,fun p hp=>?_,tracked ⟨oL,hoL,I.free⟩ hs,by simpa using I.len⟩ ⟨_,hs,.inl rfl⟩
   . exact (hs.2 b (Nat.ne_of_lt (Nat.lt_of_lt_of_le (Heap.lt_size e) I.ok.above))).trans (I.base.keep b o e n hb hx)
   . obtain ⟨sl,e1⟩:=I.base.slot b o e n hb hx;exact ⟨sl,(hs.2 b (Nat.ne_of_lt (Nat.lt_of_lt_of_le (Heap.lt_size e) I.ok.above))).trans e1⟩
   . obtain ⟨o',e1⟩:=I.base.there b o e hx;exact ⟨o',(hs.2 b (Nat.ne_of_lt (Nat.lt_of_lt_of_le (Heap.lt_size e) I.ok.above))).trans e1⟩
   . by_cases hj:j=i
     . subst hj;rw [hi] at e1;cases e1;rw [List.getElem?_set_self hiσ] at e2;cases e2;exact ⟨u,r,.inl ⟨hk,by simp⟩⟩
     . rw [List.getElem?_set_ne (Ne.symm hj)] at e2;obtain ⟨u',r',q⟩:=hl j y v' e1 e2 e3;refine ⟨u',r',?_⟩;rcases q with ⟨k,e⟩|⟨k,c,e,z⟩
       . refine .inl ⟨k,?_⟩;have:y≠x:=fun e=>hj (qt hN e1 (e ▸ hi));simp [this,e]
       . exact .inr ⟨k,c,e,z.sameBut hs (cne y c e)⟩
   . obtain ⟨w',z⟩:=I.cell y c e;exact ⟨w',z.sameBut hs (cne y c e)⟩
   . obtain ⟨e,n,ne,nf,d⟩:=I.pin p hp;exact ⟨(hs.2 p.1 ne).trans e,n,ne,nf,d⟩
 . have hfn:X.fn x=true:=by
     rcases hf with z|z
     . exact z
     . rw [z] at hk;cases hk
   obtain ⟨c,hc⟩:=I.ok.has x (.inl hk);obtain ⟨w',z⟩:=I.cell x c hc;refine wpAny_storeName_cell I.ok.kind hk hc z (fun h' hc' hs=>?_);obtain ⟨oc,hoc,hocd⟩:=id z;refine h { s with heap:=h' } ⟨I.ok,I.os,I.bare,⟨fun b o e n hb hx=>?_,fun b o e n hb hx=>?_,I.base.free,fun b o e hx=>?_,I.base.tups,I.base.frzs,I.base.tbls⟩,⟨m,hn.sameBut hs (Ne.symm (cne x c hc)),fun j y v' e1 e2 e3=>?_⟩,fun y c' e=>?_,I.free,I.freeC,fun p hp=>?_,tracked ⟨oc,hoc,I.freeC x c hc⟩ hs,by simpa using I.len⟩ ⟨c,hs,.inr hc⟩
   . exact (hs.2 b (Nat.ne_of_lt (Nat.lt_of_lt_of_le (Heap.lt_size e) (I.ok.cab x c hfn hc)))).trans (I.base.keep b o e n hb hx)
   . obtain ⟨sl,e1⟩:=I.base.slot b o e n hb hx;exact ⟨sl,(hs.2 b (Nat.ne_of_lt (Nat.lt_of_lt_of_le (Heap.lt_size e) (I.ok.cab x c hfn hc)))).trans e1⟩
   . obtain ⟨o',e1⟩:=I.base.there b o e hx;exact ⟨o',(hs.2 b (Nat.ne_of_lt (Nat.lt_of_lt_of_le (Heap.lt_size e) (I.ok.cab x c hfn hc)))).trans e1⟩
   . by_cases hj:j=i
     . subst hj;rw [hi] at e1;cases e1;rw [List.getElem?_set_self hiσ] at e2;cases e2;exact ⟨u,r,.inr ⟨.inl hk,c,hc,hc'⟩⟩
     . rw [List.getElem?_set_ne (Ne.symm hj)] at e2;obtain ⟨u',r',q⟩:=hl j y v' e1 e2 e3;refine ⟨u',r',?_⟩;rcases q with q|⟨k,c',e,z'⟩
       . exact .inl q
       . refine .inr ⟨k,c',e,z'.sameBut hs ?_⟩;rintro rfl;exact hj (qt hN e1 (I.ok.inj _ _ _ e hc ▸ hi))
   . by_cases hcc:c'=c
     . subst hcc;exact ⟨_,hc'⟩
     . obtain ⟨w2,z2⟩:=I.cell y c' e;exact ⟨w2,z2.sameBut hs hcc⟩
   . obtain ⟨e,n,ne,nf,d⟩:=I.pin p hp;refine ⟨(hs.2 p.1 ?_).trans e,n,ne,nf,d⟩;intro q;rw [q,hoc] at e;have q':oc=p.2:=Option.some.inj e;exact d w' (by rw [<- q'];exact hocd)
theorem m8 {M:Model} {A:Around} {E:Value->Shared->Prop} {i:Nat} {x:Str} {v:V} {u:Value} {Q:Unit->Shared->Prop} (I:Inv X pins σ H s) (hN:X.N.Nodup) (hi:X.N[i]?=some x) (hx:Loc X.env.scope x) (r:RelV v u)
   (h:∀ s',Inv X pins (σ.set i (some v)) H s'->Q () s') (hf:X.fn x=true\/X.env.scope.names.lookup x=some .local:=by first|exact .inl rfl|exact .inr rfl|assumption):wpAny M A (storeName X.env x u) Q E s :=
 tD I hN hi hx r (fun s' I' _=>h s' I') hf
theorem Inv.call' {s':Shared} {ch:List Addr} (I:Inv X pins σ H s) (ho:s'.os=s.os) (u:Un (frs X.stack) ch H H' s.heap s'.heap) (hok:HOk X.prog X.w H' s'.heap) (hg:AllBare s'.gens)
   (hch:∀ b∈ch,(b∈X.ex\/X.s₀.heap.objs.size<=b)/\b≠X.env.locals/\(∀ x c,X.env.cells.lookup x=some c->c≠b)/\∀ p∈X.pn++pins,p.1≠b):Inv X pins σ H' s':=by
 obtain ⟨h',g',d',t',o'⟩:=s';have e:o'=s.os:=ho;subst e;exact I.call (g':=g') (t':=t') (d':=d') u hok hg hch
end
abbrev XK:=Value->Option Addr->Hp->Prop
abbrev St:=List (Option V)
abbrev VK:=V->Hp->Prop
abbrev TE:=St->Hp->VK->Prop
abbrev TT:=St->Hp->(Bool->Hp->Prop)->Prop
abbrev TA:=St->Hp->(List V->Hp->Prop)->Prop
structure Ends where
 nx:St->Hp->Prop
 rt:VK
 bk:St->Hp->Prop:=fun _ _=>False
 ct:St->Hp->Prop:=fun _ _=>False
abbrev TS:=Ends->St->Hp->Prop
def EP (X:Cx) (pins:List (Addr × Obj)) (σ:St) (Q:VK) (u:Value) (s':Shared):Prop:=∃ v H',Inv X pins σ H' s'/\RelV v u/\Q v H'
def TP (X:Cx) (pins:List (Addr × Obj)) (σ:St) (Q:Bool->Hp->Prop) (b:Bool) (s':Shared):Prop:=∃ H',Inv X pins σ H' s'/\Q b H'
def AP (X:Cx) (pins:List (Addr × Obj)) (σ:St) (Q:List V->Hp->Prop) (us:List Value) (s':Shared):Prop:=∃ vs H',Inv X pins σ H' s'/\Vals vs us/\Q vs H'
def SP (X:Cx) (pins:List (Addr × Obj)) (D:Ends) (f:Flow) (s':Shared):Prop :=
 match f with
 | .next=>∃ σ' H',Inv X pins σ' H' s'/\D.nx σ' H'
 | .brk=>∃ σ' H',Inv X pins σ' H' s'/\D.bk σ' H'
 | .cont=>∃ σ' H',Inv X pins σ' H' s'/\D.ct σ' H'
 | .ret u=>∃ v σ' H',Inv X pins σ' H' s'/\RelV v u/\D.rt v H'
def PE (X:Cx) (e:Expr) (t:TE):Prop :=
 ∀ (pins:List (Addr × Obj)) (s:Shared) (σ:St) (H:Hp) (Q:VK),Inv X pins σ H s->t σ H Q->wpAny (model X.prog X.w) X.A (eval e X.env) (EP X pins σ Q) X.xe s
def PT (X:Cx) (e:Expr) (t:TT):Prop :=
 ∀ (pins:List (Addr × Obj)) (s:Shared) (σ:St) (H:Hp) (Q:Bool->Hp->Prop),Inv X pins σ H s->t σ H Q->wpAny (model X.prog X.w) X.A (isTrue e X.env (eval e X.env)) (TP X pins σ Q) X.xe s
def PW (X:Cx) (e:Expr) (t:TT):Prop :=
 ∀ (whole:Sem Value) (pins:List (Addr × Obj)) (s:Shared) (σ:St) (H:Hp) (Q:Bool->Hp->Prop),Inv X pins σ H s->t σ H Q->wpAny (model X.prog X.w) X.A (isTrue e X.env whole) (TP X pins σ Q) X.xe s
theorem PW.pt {X:Cx} {e:Expr} {t:TT} (h:PW X e t):PT X e t:=h _
def PA (X:Cx) (es:List Expr) (t:TA):Prop :=
 ∀ (pos:Pos) (pins:List (Addr × Obj)) (s:Shared) (σ:St) (H:Hp) (Q:List V->Hp->Prop),Inv X pins σ H s->t σ H Q->wpAny (model X.prog X.w) X.A (spliced (backTo pos (starEach es X.env))) (AP X pins σ Q) X.xe s
def PS (X:Cx) (st:Stmt) (t:TS):Prop :=
 ∀ (pins:List (Addr × Obj)) (s:Shared) (σ:St) (H:Hp) (D:Ends),Inv X pins σ H s->t D σ H->wpAny (model X.prog X.w) X.A (exec st X.env) (SP X pins D) X.xe s
def PSs (X:Cx) (st:List Stmt) (t:TS):Prop :=
 ∀ (pins:List (Addr × Obj)) (s:Shared) (σ:St) (H:Hp) (D:Ends),Inv X pins σ H s->t D σ H->wpAny (model X.prog X.w) X.A (execs st X.env) (SP X pins D) X.xe s
theorem thn {α:Type} {t:Sem α} {Q Q':α->Shared->Prop} {M:Model} {A:Around} {E:Value->Shared->Prop} {s:Shared} (h:wpAny M A t Q E s) (hQ:∀ a s,Q a s->Q' a s):wpAny M A t Q' E s:=wpAny_mono h hQ fun _ _ x=>x
theorem bd {t:Sem Value} {X:Cx} {pins:List (Addr × Obj)} {σ:St} {Q:VK} {Q':Value->Shared->Prop} {M:Model} {A:Around} {E:Value->Shared->Prop} {s:Shared} (h:wpAny M A t (EP X pins σ Q) E s) (hQ:∀ u s v H,Inv X pins σ H s->RelV v u->Q v H->Q' u s):wpAny M A t Q' E s:=thn h fun u s ⟨v,H,I,r,q⟩=>hQ u s v H I r q
theorem mZ {t:Sem (List Value)} {X:Cx} {pins:List (Addr × Obj)} {σ:St} {Q:List V->Hp->Prop} {Q':List Value->Shared->Prop} {M:Model} {A:Around} {E:Value->Shared->Prop} {s:Shared} (h:wpAny M A t (AP X pins σ Q) E s) (hQ:∀ u s v H,Inv X pins σ H s->Vals v u->Q v H->Q' u s):wpAny M A t Q' E s:=thn h fun u s ⟨v,H,I,r,q⟩=>hQ u s v H I r q
theorem sH {t:Sem Bool} {X:Cx} {pins:List (Addr × Obj)} {σ:St} {Q:Bool->Hp->Prop} {Q':Bool->Shared->Prop} {M:Model} {A:Around} {E:Value->Shared->Prop} {s:Shared} (h:wpAny M A t (TP X pins σ Q) E s) (hQ:∀ u s H,Inv X pins σ H s->Q u H->Q' u s):wpAny M A t Q' E s:=thn h fun u s ⟨H,I,q⟩=>hQ u s H I q
end L2
namespace L2
open PySem PySem.Spec PyProof.Rows
section
variable {X:Cx}
def uo (i:Nat):TE:=fun σ H Q=>∃ v,σ[i]?=some (some v)/\Q v H
def tC (v:V):TE:=fun _ H Q=>Q v H
theorem yx {i:Nat} {x:Str} {pos:Pos} (hN:X.N[i]?=some x) (hv:Vis X.env.scope x) (hd:(x == ("__debug__":Str))=false:=by decide) (hcd:(x == ("__classdict__":Str))=false:=by decide):PE X (.Name x pos) (uo i):=by
 intro pins s σ H Q I h;obtain ⟨v,e,h⟩:=h;obtain ⟨m,hn,hl⟩:=I.loc;obtain ⟨u,r,l⟩:=hl i x v hN e hv;have fin:EP X pins σ Q u s:=⟨v,H,I,r,h⟩;rcases l with ⟨hk,hm⟩|⟨hk,c,hc,hcell⟩
 . exact wpAny_Name (wpAny_loadName_local I.ok.kind hk hn hm fin) hd
 . rcases hk with hk|hk
   . exact wpAny_Name (wpAny_loadName_cell I.ok.kind hk hc hcell fin) hd
   . exact wpAny_Name (wpAny_loadName_free I.ok.kind hk hc hcell fin hcd) hd
theorem ah {i j pos}:PE X (.Constant (.int i) j pos) (tC (.int i)):=fun _ _ _ H _ I h=>wpAny_Constant_int ⟨.int i,H,I.tok _,⟨_,rfl⟩,h⟩
theorem iL {b j pos}:PE X (.Constant (.bool b) j pos) (tC (.bl b)):=fun _ _ _ H _ I h=>Constant_bool ⟨.bl b,H,I,rfl,h⟩
theorem dI {x j pos}:PE X (.Constant (.str x) j pos) (tC (.str x)):=fun _ _ _ H _ I h=>Calls.Constant_str ⟨.str x,H,I.tok _,⟨_,rfl⟩,h⟩
def Gl (X:Cx) (x:Str):Prop:=X.env.kindOf x=some .globalImplicit
theorem iP {E:Value->Shared->Prop} {pins:List (Addr × Obj)} {s:Shared} {σ:St} {H:Hp} {x:Str} {u:Value} {pos:Pos} {Q:Value->Shared->Prop} (I:Inv X pins σ H s) (hg:Gl X x) (hm:X.mg x=some u) (h:Q u s)
   (hd:(x == ("__debug__":Str))=false:=by decide):wpAny (model X.prog X.w) X.A (eval (.Name x pos) X.env) Q E s :=
 Calls.Name_function_global I.ok.kind hg (Calls.loadGlobal_global (by rw [I.ok.glob];exact I.mod.glob.keeps I.bk) hm h) hd
theorem kO {E:Value->Shared->Prop} {pins:List (Addr × Obj)} {s:Shared} {σ:St} {H:Hp} {x:Str} {u:Value} {pos:Pos} {Q:Value->Shared->Prop} (I:Inv X pins σ H s) (hg:Gl X x) (hm:X.mg x=none) (hv:bootBuiltins x=some u) (h:Q u s)
   (hn:x≠"__name__":=by decide) (hd:(x == ("__debug__":Str))=false:=by decide):wpAny (model X.prog X.w) X.A (eval (.Name x pos) X.env) Q E s:=by
 obtain ⟨mb,h1,h2⟩:=I.mod.blt;exact Calls.Name_function_global I.ok.kind hg (Calls.loadGlobal_builtin (by rw [I.ok.glob];exact I.mod.glob.keeps I.bk) hm (by rw [I.ok.blt];exact h1.keeps I.bk) ((h2 x hn).trans hv) h) hd
theorem dA {x:Str} {v:V} {u:Value} {pos:Pos} (hg:Gl X x) (hm:X.mg x=some u) (r:RelV v u) (hd:(x == ("__debug__":Str))=false:=by decide):PE X (.Name x pos) (tC v) :=
 fun _ _ _ H _ I h=>iP I hg hm ⟨v,H,I,r,h⟩ hd
theorem Cp {x:Str} {v:V} {u:Value} {pos:Pos} (hg:Gl X x) (hm:X.mg x=none) (hv:bootBuiltins x=some u) (r:RelV v u) (hn:x≠"__name__":=by decide) (hd:(x == ("__debug__":Str))=false:=by decide):PE X (.Name x pos) (tC v) :=
 fun _ _ _ H _ I h=>kO I hg hm hv ⟨v,H,I,r,h⟩ hn hd
variable {a b:Expr} {ta tb:TE} {pos:Pos}
def PC (X:Cx) (op:CmpOp) (a b:Expr) (t:TE):Prop :=
 ∀ (pins:List (Addr × Obj)) (s:Shared) (σ:St) (H:Hp) (Q:VK),Inv X pins σ H s->t σ H Q ->
   wpAny (model X.prog X.w) X.A (eval a X.env) (fun v s₁=>wpAny (model X.prog X.w) X.A (eval b X.env) (fun u s₂=>wpAny (model X.prog X.w) X.A (compareOp op v u) (EP X pins σ Q) X.xe s₂) X.xe s₁) X.xe s
def D2 (ta:TE):TE:=fun σ H Q=>ta σ H fun x H1=>Q (.bl (decide (x=.non))) H1
def Ch (ta:TE):TE:=fun σ H Q=>ta σ H fun x H1=>Q (.bl (!decide (x=.non))) H1
def tB (t:TE):TT:=fun σ H Q=>t σ H fun x H1=>∃ c,x=.bl c/\Q c H1
theorem ui {op:CmpOp} {t:TE} (h:PC X op a b t) (h1:behindInMarks op b=false:=by first|exact nobehind _ (by decide) (by decide)|rfl):PT X (.Compare a [op] [b] pos) (tB t):=by
 intro pins s σ H Q I hw;refine wpAny_isTrue_Compare1 (thn (h pins s σ H _ I hw) fun v s1 h1=>thn h1 fun u s2 h2=>thn h2 fun c s3 ⟨x,H1,I1,r1,q1⟩=>?_) h1;obtain ⟨d,rfl,q⟩:=q1;cases r1;exact wpAny_truthy_bool ⟨H1,I1,q⟩
theorem ze {e:Expr} {t:TE} (h:PE X e t) (he:∀ whole,isTrue e X.env whole=(do let v <- whole;standAt e.pos;holding [v] (truthy v)):=by intro _;rfl):PT X e (tB t):=by
 intro pins s σ H Q I hw;refine isTrue_plain (bd (h pins s σ H _ I hw) fun v s1 x H1 I1 r1 q1=>?_) (he _);obtain ⟨d,rfl,q⟩:=q1;cases r1;exact wpAny_truthy_bool ⟨H1,I1,q⟩
variable {tA tB':TT} {dU:List Expr}
def C9 (t u:TT):TT:=fun σ H Q=>t σ H fun c H1=>if c=true then u σ H1 Q else Q false H1
def tOr (t u:TT):TT:=fun σ H Q=>t σ H fun c H1=>if c=true then Q true H1 else u σ H1 Q
def zU (t:TT):TT:=fun σ H Q=>t σ H fun c H1=>Q (!c) H1
theorem jr (ha:PT X a tA):PW X (.BoolOp .Or [a] pos) tA:=by
 intro wh pins s σ H Q I h;refine isTrue_or (thn (ha pins s σ H Q I h) fun c s1 e=>?_);cases c with
 | false=>exact isTrue_or_nil e
 | true=>exact e
theorem iJ (ha:PT X a tA) (hb:PW X (.BoolOp .Or (b::dU) pos) tB'):PW X (.BoolOp .Or (a::b::dU) pos) (tOr tA tB'):=by
 intro wh pins s σ H Q I h;refine isTrue_or (sH (ha pins s σ H _ I h) fun c s1 H1 I1 q1=>?_);cases c with
 | true=>exact ⟨H1,I1,q1⟩
 | false=>exact hb wh pins s1 σ H1 Q I1 q1
theorem rh (ha:PT X a tA):PT X (.UnaryOp .Not a pos) (zU tA):=by
 intro pins s σ H Q I h;exact isTrue_not (ha pins s σ H (fun c H1=>Q (!c) H1) I h)
def yq (ta tb:TE):TE:=fun σ H Q=>ta σ H fun x H1=>∃ c,x=.bl c/\if c=true then tb σ H1 Q else Q (.bl false) H1
def zZ (ta tb:TE):TE:=fun σ H Q=>ta σ H fun x H1=>∃ c,x=.bl c/\if c=true then Q (.bl true) H1 else tb σ H1 Q
def Cb (ta:TE):TE:=fun σ H Q=>ta σ H fun x H1=>∃ c,x=.bl c/\Q (.bl (!c)) H1
theorem zl {op} {t:TE} (h:PE X a t):PE X (.BoolOp op [a] pos) t:=fun pins s σ H Q I hw=>BoolOp_one (h pins s σ H Q I hw)
theorem Dz (ha:PE X a ta) (hb:PE X (.BoolOp .And (b::dU) pos) tb):PE X (.BoolOp .And (a::b::dU) pos) (yq ta tb):=by
 intro pins s σ H Q I h;refine BoolOp_and (bd (ha pins s σ H _ I h) fun v s1 x H1 I1 r1 q1=>?_);obtain ⟨c,rfl,q1⟩:=q1;cases r1;refine wpAny_truthy_bool ?_;cases c with
 | true=>exact hb pins s1 σ H1 Q I1 q1
 | false=>exact ⟨.bl false,H1,I1,rfl,q1⟩
theorem D9 (ha:PE X a ta) (hb:PE X (.BoolOp .Or (b::dU) pos) tb):PE X (.BoolOp .Or (a::b::dU) pos) (zZ ta tb):=by
 intro pins s σ H Q I h;refine BoolOp_or (bd (ha pins s σ H _ I h) fun v s1 x H1 I1 r1 q1=>?_);obtain ⟨c,rfl,q1⟩:=q1;cases r1;refine wpAny_truthy_bool ?_;cases c with
 | false=>exact hb pins s1 σ H1 Q I1 q1
 | true=>exact ⟨.bl true,H1,I1,rfl,q1⟩
def tIf (t:TT) (ta tb:TE):TE:=fun σ H Q=>t σ H fun c H1=>if c=true then ta σ H1 Q else tb σ H1 Q
end
end L2
namespace L2
open PySem PySem.Spec PyProof.Rows
def SqL (K:PySem.W.Frag) (H:Hp) (a:Addr) (xs:List V):Prop :=
 Rd H a (.lst xs) \/
   ∃ (o:Obj) (its:Array Value) (n:Nat),K.lookup a=some o/\o.cls=.type "list"/\o.dict=none/\o.data=.seq its n/\its.size<=sizeLine/\Vals xs its.toList
def SqT (K:PySem.W.Frag) (H:Hp) (a:Addr) (xs:List V):Prop :=
 Rd H a (.tup xs) \/
   ∃ (o:Obj) (its:Array Value) (n:Nat),K.lookup a=some o/\o.cls=.type "tuple"/\o.data=.seq its n/\its.size<=sizeLine/\Vals xs its.toList
def Ey:Value->Option V
 | .none=>some .non
 | .bool b=>some (.bl b)
 | .int i _=>some (.int i)
 | .str x _=>some (.str x)
 | .bytes b _=>some (.byt b)
 | .float b _=>some (.flt b)
 | .ref a=>some (.ref a)
 | .type n=>some (.ty n)
 | _=>none
theorem RelV.abs {x:V} {u:Value} (r:RelV x u):Ey u=some x:=by
 cases x with
 | non=>cases r;rfl
 | bl _=>cases r;rfl
 | int _=>obtain ⟨t,rfl⟩:=r;rfl
 | str _=>obtain ⟨t,rfl⟩:=r;rfl
 | byt _=>obtain ⟨t,rfl⟩:=r;rfl
 | flt _=>obtain ⟨t,rfl⟩:=r;rfl
 | ref _=>cases r;rfl
 | ty _=>cases r;rfl
theorem RelV.inj {x y:V} {u:Value} (r:RelV x u) (q:RelV y u):x=y:=Option.some.inj (r.abs.symm.trans q.abs)
theorem Vals.inj {xs ys:List V} {us:List Value} (h:Vals xs us) (h2:Vals ys us):xs=ys:=by
 induction h generalizing ys with
 | nil=>cases h2;rfl
 | cons r _ ih=>cases h2 with|cons r2 t2=>rw [r.inj r2,ih t2]
section
variable {X:Cx} {pins:List (Addr × Obj)} {σ:St} {H:Hp} {s:Shared} {a:Addr} {xs ys:List V}
theorem SqL.of {K:PySem.W.Frag} (h:H a=some (.lst xs)):SqL K H a xs:=.inl (.inl h)
theorem SqT.of {K:PySem.W.Frag} (h:H a=some (.tup xs)):SqT K H a xs:=.inl (.inl h)
theorem Inv.list (I:Inv X pins σ H s) (h:SqL X.K H a xs):∃ its:List Value,Vals xs its/\PlainL s.heap a its.toArray/\xs.length<=sizeLine:=by
 rcases h with h|⟨o,its,n,hk,hc,hd,hs,hz,r⟩
 . obtain ⟨z,its,n,r,e⟩:=h.ok I.hok;exact ⟨its,r,⟨_,n,e,rfl,rfl,rfl⟩,z⟩
 . refine ⟨its.toList,r,⟨o,n,I.kIn a o hk,hc,hd,by simpa using hs⟩,?_⟩;have e:=r.length;simp only [Array.length_toList] at e;omega
theorem Inv.tuple (I:Inv X pins σ H s) (h:SqT X.K H a xs):∃ its:List Value,Vals xs its/\IsTup s.heap a its.toArray/\xs.length<=sizeLine:=by
 rcases h with h|⟨o,its,n,hk,hc,hs,hz,r⟩
 . obtain ⟨z,its,r,p⟩:=h.ok I.hok;exact ⟨its,r,p,z⟩
 . refine ⟨its.toList,r,⟨o,I.kIn a o hk,hc,n,by simpa using hs⟩,?_⟩;have e:=r.length;simp only [Array.length_toList] at e;omega
theorem Inv.list_inj (I:Inv X pins σ H s) (h:SqL X.K H a xs) (h':SqL X.K H a ys):xs=ys:=by
 obtain ⟨its,r,⟨o,n,e,_,_,d⟩,_⟩:=I.list h;obtain ⟨its',r',⟨o',n',e',_,_,d'⟩,_⟩:=I.list h';rw [e] at e';cases e';rw [d] at d';injection d' with d1 _
 have:its=its':=by simpa using congrArg Array.toList d1
 subst this;exact r.inj r'
theorem Inv.tuple_inj (I:Inv X pins σ H s) (h:SqT X.K H a xs) (h':SqT X.K H a ys):xs=ys:=by
 obtain ⟨its,r,⟨o,e,_,n,d⟩,_⟩:=I.tuple h;obtain ⟨its',r',⟨o',e',_,n',d'⟩,_⟩:=I.tuple h';rw [e] at e';cases e';rw [d] at d';injection d' with d1 _
 have:its=its':=by simpa using congrArg Array.toList d1
 subst this;exact r.inj r'
end
abbrev Cx.wish (X:Cx) (E:Value->Shared->Prop):Cx:={ X with xe:=E }
abbrev Cx.nox (X:Cx):Cx:=X.wish fun _ _=>False
theorem Cx.Ok.wish {X:Cx} (ok:X.Ok) (E:Value->Shared->Prop):(X.wish E).Ok :=
 ⟨ok.mod,ok.kind,ok.glob,ok.blt,ok.above,ok.inj,ok.has,ok.cab,ok.hd,ok.frames,ok.stk,ok.exf,ok.bs,ok.bsz,ok.noex,ok.exfs,ok.funs,ok.frf⟩
theorem Cx.Ok.unwish {X:Cx} {E:Value->Shared->Prop} (ok:(X.wish E).Ok):X.Ok :=
 ⟨ok.mod,ok.kind,ok.glob,ok.blt,ok.above,ok.inj,ok.has,ok.cab,ok.hd,ok.frames,ok.stk,ok.exf,ok.bs,ok.bsz,ok.noex,ok.exfs,ok.funs,ok.frf⟩
section
variable {X:Cx} {pins:List (Addr × Obj)} {σ:St} {H:Hp} {s:Shared} {E:Value->Shared->Prop}
theorem Inv.wish (I:Inv X pins σ H s) (E:Value->Shared->Prop):Inv (X.wish E) pins σ H s:=⟨I.ok.wish E,I.os,I.bare,I.base,I.loc,I.cell,I.free,I.freeC,I.pin,I.hok,I.len⟩
theorem Inv.unwish (I:Inv (X.wish E) pins σ H s):Inv X pins σ H s:=⟨I.ok.unwish,I.os,I.bare,I.base,I.loc,I.cell,I.free,I.freeC,I.pin,I.hok,I.len⟩
theorem SP.unwish {D:Ends} {f:Flow} {s':Shared} (h:SP (X.wish E) pins D f s'):SP X pins D f s':=by
 cases f with
 | next=>obtain ⟨σ',H',I,q⟩:=h;exact ⟨σ',H',I.unwish,q⟩
 | brk=>obtain ⟨σ',H',I,q⟩:=h;exact ⟨σ',H',I.unwish,q⟩
 | cont=>obtain ⟨σ',H',I,q⟩:=h;exact ⟨σ',H',I.unwish,q⟩
 | ret u=>obtain ⟨v,σ',H',I,r,q⟩:=h;exact ⟨v,σ',H',I.unwish,r,q⟩
theorem PSs.nox {st:List Stmt} {t:TS} (h:PSs X.nox st t):PSs X st t:=fun pins s σ H D I hw =>
 wpAny_mono (h pins s σ H D (I.wish _) hw) (fun _ _ q=>q.unwish) fun _ _ z=>False.elim z
end
section
variable {X:Cx} {st:Stmt} {dU:List Stmt} {t u:TS} {e:Expr} {te:TE} {pos:Pos}
def tNext:TS:=fun D σ H=>D.nx σ H
def xt (t u:TS):TS:=fun D σ H=>t { D with nx:=u D } σ H
theorem aG:PSs X [] tNext:=fun _ _ σ H _ I h=>wpAny_execs_nil ⟨σ,H,I,h⟩
theorem am (h1:PS X st t) (h2:PSs X dU u):PSs X (st::dU) (xt t u):=by
 intro pins s σ H D I h;refine wpAny_execs_cons (thn (h1 pins s σ H { D with nx:=u D } I h) fun f s1 q=>?_);cases f with
 | next =>
   obtain ⟨σ',H',I',q⟩:=q;exact h2 pins s1 σ' H' D I' q
 | ret v=>exact q
 | brk=>exact q
 | cont=>exact q
theorem ap (h1:PS X st t):PSs X [st] t:=by
 intro pins s σ H D I h;refine wpAny_execs_cons (thn (h1 pins s σ H D I h) fun f s1 q=>?_);cases f with
 | next=>exact wpAny_execs_nil q
 | ret v=>exact q
 | brk=>exact q
 | cont=>exact q
theorem Inv.quiet {pins:List (Addr × Obj)} {σ:St} {H:Hp} {s:Shared} (I:Inv X pins σ H s):interactive X.env=false:=by simp [interactive,I.ok.kind]
def yj (te:TE):TS:=fun D σ H=>te σ H fun _ H1=>D.nx σ H1
theorem eU (he:PE X e te) (hs:swapsWith e none pos.line X.env=pure false:=by rfl):PS X (.Expr e pos) (yj te):=by
 intro pins s σ H D I h;exact wpAny_Expr_any (bd (he pins s σ H _ I h) fun v s1 x H1 I1 r1 q1=>⟨σ,H1,I1,q1⟩) I.quiet hs
def Bo (te:TE):TS:=fun D σ H=>te σ H D.rt
theorem aU (he:PE X e te):PS X (.Return (some e) pos) (Bo te):=by
 intro pins s σ H D I h;exact wpAny_Return_some (bd (he pins s σ H _ I h) fun v s1 x H1 I1 r1 q1=>⟨x,σ,H1,I1,r1,q1⟩)
def Ce:TS:=fun D _ H=>D.rt .non H
def BP (c:TT) (t u:TS):TS:=fun D σ H=>c σ H fun b H1=>if b=true then t D σ H1 else u D σ H1
theorem be {c:Expr} {a b:List Stmt} {tc:TT} (hc:PT X c tc) (ha:PSs X a t) (hb:PSs X b u):PS X (.If c a b pos) (BP tc t u):=by
 intro pins s σ H D I h;refine wpAny_If (sH (hc pins s σ H _ I h) fun d s1 H1 I1 q1=>?_);cases d with
 | true=>exact ha pins s1 σ H1 D I1 q1
 | false=>exact hb pins s1 σ H1 D I1 q1
def C0:TS:=fun _ _ _=>False
end
abbrev TG:=V->St->Hp->(St->Hp->Prop)->Prop
abbrev TGs:=List V->St->Hp->(St->Hp->Prop)->Prop
def PG (X:Cx) (target:Expr) (t:TG):Prop :=
 ∀ (pins:List (Addr × Obj)) (s:Shared) (σ:St) (H:Hp) (v:V) (u:Value) (Q:St->Hp->Prop),Inv X pins σ H s->RelV v u->t v σ H Q ->
   wpAny (model X.prog X.w) X.A (assign target X.env u) (fun _ s'=>∃ σ' H',Inv X pins σ' H' s'/\Q σ' H') X.xe s
def PGs (X:Cx) (ts:List Expr) (t:TGs):Prop :=
 ∀ (pins:List (Addr × Obj)) (s:Shared) (σ:St) (H:Hp) (vs:List V) (us:List Value) (Q:St->Hp->Prop),Inv X pins σ H s->Vals vs us->t vs σ H Q ->
   wpAny (model X.prog X.w) X.A (assignInOrder ((assignEach ts X.env).map (·.2)) us) (fun _ s'=>∃ σ' H',Inv X pins σ' H' s'/\Q σ' H') X.xe s
abbrev yf:=V->V->V->Hp->(Hp->Prop)->Prop
def D6 (X:Cx) (t:yf):Prop :=
 ∀ (pins:List (Addr × Obj)) (s:Shared) (σ:St) (H:Hp) (o i v:V) (ov iv u:Value) (Q:Hp->Prop),Inv X pins σ H s->RelV o ov->RelV i iv->RelV v u->t o i v H Q ->
   wpAny (model X.prog X.w) X.A (setItem ov iv u) (fun _ s'=>∃ H',Inv X pins σ H' s'/\Q H') X.xe s
abbrev TIp:=V->V->Hp->VK->Prop
section
variable {X:Cx} {pos:Pos}
def lB (i:Nat):TG:=fun v σ H Q=>Q (σ.set i (some v)) H
theorem aM {i:Nat} {x:Str} (hN:X.N.Nodup) (hi:X.N[i]?=some x) (hx:Loc X.env.scope x) (hf:X.fn x=true\/X.env.scope.names.lookup x=some .local:=by first|exact .inl rfl|exact .inr rfl|assumption):PG X (.Name x pos) (lB i):=by
 intro pins s σ H v u Q I r h;exact wpAny_assign_Name (m8 I hN hi hx r (fun s' I'=>⟨_,H,I',h⟩) hf)
def gNil:TGs:=fun vs σ H Q=>vs=[]/\Q σ H
def rS (t:TG) (u:TGs):TGs:=fun vs σ H Q=>∃ v r,vs=v::r/\t v σ H fun σ' H'=>u r σ' H' Q
theorem iR:PGs X [] gNil:=by
 intro pins s σ H vs us Q I r h;obtain ⟨e,h⟩:=h;subst e;cases r;exact assignInOrder_nil ⟨σ,H,I,h⟩
theorem bn {e:Expr} {es:List Expr} {t:TG} {u:TGs} (h1:PG X e t) (h2:PGs X es u)
   (hs:(assignEach (e::es) X.env).map (·.2)=assign e X.env::(assignEach es X.env).map (·.2):=by rfl):PGs X (e::es) (rS t u):=by
 intro pins s σ H vs us Q I r h;obtain ⟨v,vr,e1,h⟩:=h;subst e1;cases r with
 | cons r rr =>
   rw [hs];refine assignInOrder_cons (thn (h1 pins s σ H _ _ _ I r h) fun _ s1 ⟨σ1,H1,I1,q1⟩=>?_);exact h2 pins s1 σ1 H1 _ _ Q I1 rr q1
def yb (K:PySem.W.Frag) (n:Nat) (t:TGs):TG:=fun v σ H Q=>∃ a xs,v=.ref a/\SqT K H a xs/\xs.length=n/\t xs σ H Q
theorem kC {es:List Expr} {k:Nat} {t:TGs} {n:Nat} (hc:X.calm=true) (h:PGs X es t)
   (hn:(assignEach es X.env).length=n:=by rfl) (hst:(assignEach es X.env).findIdx? (·.1)=none:=by rfl):PG X (.Tuple es k pos) (yb X.K n t):=by
 intro pins s σ H v u Q I r hw;obtain ⟨a,xs,e1,hq,hl,hw⟩:=hw;subst e1;cases r;obtain ⟨its,rv,ht,hz⟩:=I.tuple hq;refine assign_Tuple_tuple (I.ok.hd hc) ht (by simp [hn,<- hl,rv.length]) hst fun h' hx=>?_;have I1:Inv X pins σ H { s with heap:=h' }:=I.kept (t':=s.toks) fun b o e=>hx b o (Nat.ne_of_lt (Heap.lt_size e)) e;exact h pins _ σ H xs _ Q I1 (by simpa using rv) hw
def AL (to ti:TE) (t:yf):TG:=fun v σ H Q=>to σ H fun o H1=>ti σ H1 fun i H2=>t o i v H2 fun H3=>Q σ H3
theorem yF {o i:Expr} {to ti:TE} {t:yf} (ho:PE X o to) (hi:PE X i ti) (hs:D6 X t)
   (ha:∀ v,assign (.Subscript o i pos) X.env v=(do
     let ov <- holding [v] (eval o X.env)
     let iv <- holding [v,ov] (eval i X.env)
     standAt pos
     holding [v,ov,iv] (setItem ov iv v)
     release [v,ov,iv] []):=by intro _;rfl):PG X (.Subscript o i pos) (AL to ti t):=by
 intro pins s σ H v u Q I r h;rw [ha];refine wpAny_bind (wpAny_holding (bd (ho pins s σ H _ I h) fun ov s1 x H1 I1 r1 q1=>?_));refine wpAny_bind (wpAny_holding (bd (hi pins s1 σ H1 _ I1 q1) fun iv s2 y H2 I2 r2 q2=>?_));refine wpAny_bind (wpAny_standAt (wpAny_bind (wpAny_holding (thn (hs pins s2 σ H2 x y v ov iv u _ I2 r1 r2 r q2) fun _ s3 ⟨H3,I3,q3⟩=>?_))));exact wpAny_release ⟨σ,H3,I3,q3⟩
def uv (te:TE) (g:TG):TS:=fun D σ H=>te σ H fun x H1=>g x σ H1 D.nx
theorem qH {tg e:Expr} {te:TE} {g:TG} (he:PE X e te) (hg:PG X tg g) (hs:swapsWithSole [tg] e pos.line X.env=pure false:=by rfl) (hw:swappedStores [tg] e X.env=pure none:=by rfl)
   (h1:(assignEach [tg] X.env).map (·.2)=[assign tg X.env]:=by rfl):PS X (.Assign [tg] e pos) (uv te g):=by
 intro pins s σ H D I h;refine wpAny_Assign_stores (bd (he pins s σ H _ I h) fun v s1 x H1 I1 r1 q1=>?_) hs hw;rw [h1];exact thn (hg pins s1 σ H1 x v _ I1 r1 q1) fun _ s2 q=>q
theorem aw {i:Nat} {x:Str} {e:Expr} {te:TE} {pos':Pos} (hN:X.N.Nodup) (hi:X.N[i]?=some x) (hx:Loc X.env.scope x) (he:PE X e te) (hs:swapsWith e (some (.Name x pos')) pos.line X.env=pure false:=by rfl) (hf:X.fn x=true\/X.env.scope.names.lookup x=some .local:=by first|exact .inl rfl|exact .inr rfl|assumption) :
   PS X (.Assign [.Name x pos'] e pos) (uv te (lB i)):=by
 intro pins s σ H D I h;refine wpAny_Assign_Name (bd (he pins s σ H _ I h) fun v s1 y H1 I1 r1 q1=>?_) hs;exact m8 I1 hN hi hx r1 (fun s2 I2=>⟨_,H1,I2,q1⟩) hf
def Ds (i:Nat) (te:TE) (ti:TIp):TS:=fun D σ H=>∃ x,σ[i]?=some (some x)/\te σ H fun y H1=>ti x y H1 fun z H2=>D.nx (σ.set i (some z)) H2
def Cc (to ti te:TE) (tget:V->V->Hp->VK->Prop) (tip:TIp) (tset:yf):TS:=fun D σ H=>to σ H fun o H1=>ti σ H1 fun i H2=>tget o i H2 fun x H3=>te σ H3 fun y H4=>tip x y H4 fun z H5=>tset o i z H5 fun H6=>D.nx σ H6
def ipI (f:Int->Int->Int):TIp:=fun x y H Q=>∃ i j,x=.int i/\y=.int j/\Q (.int (f i j)) H
end
section
variable {X:Cx} {pos:Pos}
def zn (c:TT) (tb:TS):TS:=fun D σ H=>∃ W:Nat->St->Hp->Prop,(∃ m,W m σ H)/\∀ m σ H,W m σ H ->
 c σ H fun b H1=>if b=true then ∃ N:St->Hp->Prop,(∀ σ' H',N σ' H'->∃ m',m'<m/\W m' σ' H')/\tb { D with nx:=N,ct:=N,bk:=D.nx } σ H1 else D.nx σ H1
theorem Ak {c:Expr} {body:List Stmt} {tc:TT} {tb:TS} (hp:PassesOwn (model X.prog X.w) X.A X.env X.xe) (hc:PT X c tc) (hb:PSs X body tb):PS X (.While c body [] pos) (zn tc tb):=by
 intro pins s σ H D I h;obtain ⟨W,⟨m0,w0⟩,turn⟩:=h;refine wpAny_While (codeAny_whileLoop (fun n s'=>∃ σ' H',Inv X pins σ' H' s'/\W n σ' H') ?_ m0 ⟨σ,H,I,w0⟩);rintro n s1 ⟨σ1,H1,I1,w1⟩;refine wpAny_passesOwn hp (sH (hc pins s1 σ1 H1 _ I1 (turn n σ1 H1 w1)) fun b s2 H2 I2 q2=>?_);cases b with
 | true =>
   obtain ⟨N,hN,q2⟩:=q2;rw [if_pos rfl];refine wpAny_passesOwn hp (thn (hb pins s2 σ1 H2 _ I2 q2) fun f s3 q3=>?_);cases f with
   | next =>
     obtain ⟨σ3,H3,I3,n3⟩:=q3;obtain ⟨m',hm,w3⟩:=hN σ3 H3 n3;exact ⟨m',hm,σ3,H3,I3,w3⟩
   | cont =>
     obtain ⟨σ3,H3,I3,n3⟩:=q3;obtain ⟨m',hm,w3⟩:=hN σ3 H3 n3;exact ⟨m',hm,σ3,H3,I3,w3⟩
   | brk=>exact q3
   | ret v=>exact q3
 | false =>
   rw [if_neg Bool.false_ne_true];exact wpAny_execs_nil ⟨σ1,H2,I2,q2⟩
end
structure It where
 go:Nat->Hp->Prop
 yld:Nat->Hp->V->Hp->Prop
 stop:Nat->Hp->Prop
def fi (X:Cx) (pins:List (Addr × Obj)) (H:Hp) (b:Addr):Prop :=
 H b=none/\b≠X.env.locals/\b ∉ X.fs/\(b∈X.ex\/X.s₀.heap.objs.size<=b)/\(∀ x c,X.env.cells.lookup x=some c->c≠b)/\∀ p∈X.pn++pins,p.1≠b
theorem Inv.fpOk {X:Cx} {pins:List (Addr × Obj)} {σ:St} {H H':Hp} {s:Shared} {b:Addr} (I:Inv X pins σ H s) (hb:s.heap.objs.size<=b) (hn:H' b=none):fi X pins H' b:=by
 refine ⟨hn,Nat.ne_of_gt (Nat.lt_of_lt_of_le I.lt hb),I.nofs hb,.inr (Nat.le_trans I.sz hb),fun x c e z=>?_,fun p hp z=>?_⟩
 . obtain ⟨v,q⟩:=I.cell x c e;exact absurd (Nat.lt_of_lt_of_le q.lt (by rw [z];exact hb)) (Nat.lt_irrefl _)
 . exact absurd (Nat.lt_of_lt_of_le (Heap.lt_size (I.pin p hp).1) (by rw [z];exact hb)) (Nat.lt_irrefl _)
structure Turn (P:Program) (w:World) (K:PySem.W.Frag) (tg:Expr) (J:It) (fp:List Addr) (it:Addr) (tn:Nat->Heap->Prop):Prop where
 mem:it∈fp
 obj:∀ i h,tn i h->∀ b∈fp,∃ o,h.get? b=some o/\∀ v,o.data≠.cell v
 keep:∀ i h h',tn i h->(∀ b∈fp,∀ o,h.get? b=some o->h'.get? b=some o)->tn i h'
 item:∀ (X:Cx),X.prog=P->X.w=w->X.K=K->X.calm=true->∀ (i:Nat) (pins:List (Addr × Obj)) (s:Shared) (σ:St) (H:Hp) (E:Value->Shared->Prop),Inv X pins σ H s->(∀ b∈fp,fi X pins H b)->tn i s.heap->J.go i H ->
   wpAny (model P w) X.A (pyNext (.ref it)) (fun r s1=>∃ u,r=some u /\
     wpAny (model P w) X.A (letOwnedTupleGo tg (.ref it) u) (fun _ s2=>∃ x H',Inv X pins σ H' s2/\RelV x u/\J.yld i H x H'/\tn (i+1) s2.heap/\∀ b∈fp,H' b=none) E s1) E s
 done:∀ (X:Cx),X.prog=P->X.w=w->X.K=K->X.calm=true->∀ (i:Nat) (pins:List (Addr × Obj)) (s:Shared) (σ:St) (H:Hp) (E:Value->Shared->Prop),Inv X pins σ H s->(∀ b∈fp,fi X pins H b)->tn i s.heap->J.stop i H ->
   wpAny (model P w) X.A (pyNext (.ref it)) (fun r s1=>r=none/\Inv X pins σ H s1) E s
 self:∀ (A:Around) (i:Nat) (s:Shared) (Q:Value->Shared->Prop) (E:Value->Shared->Prop),tn i s.heap->Q (.ref it) s->wpAny (model P w) A (pyIter (.ref it)) Q E s
abbrev TI:=St->Hp->(It->Hp->Prop)->Prop
def PIE (X:Cx) (pins:List (Addr × Obj)) (σ:St) (tg:Expr) (R:It->Hp->Prop) (itv:Value) (s2:Shared):Prop :=
 ∃ (it:Addr) (fp:List Addr) (tn:Nat->Heap->Prop) (J:It) (H':Hp),itv=.ref it/\Inv X pins σ H' s2/\Turn X.prog X.w X.K tg J fp it tn/\tn 0 s2.heap/\(∀ b∈fp,fi X pins H' b)/\R J H'
def PI (X:Cx) (tg iter:Expr) (wi:TI):Prop :=
 ∀ (pins:List (Addr × Obj)) (s:Shared) (σ:St) (H:Hp) (R:It->Hp->Prop),Inv X pins σ H s->wi σ H R ->
   wpAny (model X.prog X.w) X.A (eval iter X.env) (fun v s1=>wpAny (model X.prog X.w) X.A (pyIter v) (PIE X pins σ tg R) X.xe s1) X.xe s
theorem ub {M:Model} {A:Around} {E:Value->Shared->Prop} {s:Shared} {tg:Expr} {it:Addr} {u:Value} {o:Obj} {n:String} {vs:Array Value} {Q:Unit->Shared->Prop} (ho:s.heap.get? it=some o) (hc:o.cls=.type n) (hd:o.data=.fields vs)
   (hn:["enumerate","zip","dict_itemiterator","dict_reverseitemiterator","odict_iterator","itertools.zip_longest","itertools.pairwise"].contains n=false) (hQ:Q () s):wpAny M A (letOwnedTupleGo tg (.ref it) u) Q E s:=by
 unfold letOwnedTupleGo;cases tg <;> first
   | exact wpAny_pure hQ
   | (cases u <;> first
       | exact wpAny_pure hQ
       | (refine wpAny_bind (wpAny_load ho ?_)
          rw [hc,hd];show wpAny M A (if (["enumerate","zip","dict_itemiterator","dict_reverseitemiterator","odict_iterator","itertools.zip_longest","itertools.pairwise"].contains n && vs[0]? == some (rawInt _))=true then _ else _) Q E s;rw [if_neg (by intro h;rw [hn,Bool.false_and] at h;cases h)];exact wpAny_pure hQ))
def Itl (K:PySem.W.Frag) (a:Addr):It :=
 ⟨fun i H=>∃ xs x,SqL K H a xs/\xs[i]?=some x,fun i H x H'=>H'=H/\∀ xs,SqL K H a xs->xs[i]?=some x,fun i H=>∃ xs,SqL K H a xs/\xs.length<=i⟩
def Itt (K:PySem.W.Frag) (a:Addr):It :=
 ⟨fun i H=>∃ xs x,SqT K H a xs/\xs[i]?=some x,fun i H x H'=>H'=H/\∀ xs,SqT K H a xs->xs[i]?=some x,fun i H=>∃ xs,SqT K H a xs/\xs.length<=i⟩
def Itr (lo:Int) (n:Nat):It:=⟨fun i _=>i<n,fun i H x H'=>H'=H/\x=.int (lo+i),fun i _=>n<=i⟩
theorem yX {P:Program} {w:World} {K:PySem.W.Frag} {tg:Expr} (a it:Addr):Turn P w K tg (Itl K a) [it] it (fun i h=>h.IsListIter it a i) where
 mem:=by simp
 obj:=fun i h st b hb=>by
   have e:b=it:=by simpa using hb
   subst e;obtain ⟨o,e,c,d⟩:=st;exact ⟨o,e,fun v z=>by rw [d] at z;cases z⟩
 keep:=fun i h h' st k=>st.at fun o e=>k it (by simp) o e
 item:=by
   intro X hP hw hK hc i pins s σ H E I hf st hg;subst hP hw hK;obtain ⟨xs,x,hq,hx⟩:=hg;obtain ⟨its,rv,p,hz⟩:=I.list hq;obtain ⟨u,hu,ru⟩:=rv.get hx;obtain ⟨f0,f1,f2,f3,f4,f5⟩:=hf it (by simp);refine wpAny_pyNext_list_item st p.isList (x:=u) (by simpa using hu) fun h' st' sb=>?_;have I1:Inv X pins σ H { s with heap:=h' }:=I.turned (t':=s.toks) (fun b o hb e=>(sb.2 b hb).trans e) f0 f1 f3 f4 f5;obtain ⟨o,e,c,d⟩:=id st';exact ⟨u,rfl,ub (s:={ s with heap:=h' }) e c d (by decide) ⟨x,H,I1,ru,⟨rfl,fun ys hy=>by rw [I.list_inj hy hq];exact hx⟩,st',fun b hb=>(hf b hb).1⟩⟩
 done:=by
   intro X hP hw hK hc i pins s σ H E I hf st hg;subst hP hw hK;obtain ⟨xs,hq,hx⟩:=hg;obtain ⟨its,rv,p,hz⟩:=I.list hq;obtain ⟨f0,f1,f2,f3,f4,f5⟩:=hf it (by simp);have hl:=rv.length;exact wpAny_pyNext_list_end (I.ok.hd hc) st p.isList (by simp;omega) fun h' eb=>⟨rfl,I.turned (t':=s.toks) (fun b o hb e=>eb b o hb e) f0 f1 f3 f4 f5⟩
 self:=fun _ _ _ _ _ st h=>wpAny_pyIter_listiter st h
theorem xZ {P:Program} {w:World} {K:PySem.W.Frag} {tg:Expr} (a it:Addr):Turn P w K tg (Itt K a) [it] it (fun i h=>h.IsTupleIter it a i) where
 mem:=by simp
 obj:=fun i h st b hb=>by
   have e:b=it:=by simpa using hb
   subst e;obtain ⟨o,e,c,d⟩:=st;exact ⟨o,e,fun v z=>by rw [d] at z;cases z⟩
 keep:=fun i h h' st k=>st.at fun o e=>k it (by simp) o e
 item:=by
   intro X hP hw hK hc i pins s σ H E I hf st hg;subst hP hw hK;obtain ⟨xs,x,hq,hx⟩:=hg;obtain ⟨its,rv,p,hz⟩:=I.tuple hq;obtain ⟨u,hu,ru⟩:=rv.get hx;obtain ⟨f0,f1,f2,f3,f4,f5⟩:=hf it (by simp);refine wpAny_pyNext_tuple_item st (show s.heap.IsTuple a its.toArray from p) (x:=u) (by simpa using hu) fun h' st' sb=>?_;have I1:Inv X pins σ H { s with heap:=h' }:=I.turned (t':=s.toks) (fun b o hb e=>(sb.2 b hb).trans e) f0 f1 f3 f4 f5;obtain ⟨o,e,c,d⟩:=id st';exact ⟨u,rfl,ub (s:={ s with heap:=h' }) e c d (by decide) ⟨x,H,I1,ru,⟨rfl,fun ys hy=>by rw [I.tuple_inj hy hq];exact hx⟩,st',fun b hb=>(hf b hb).1⟩⟩
 done:=by
   intro X hP hw hK hc i pins s σ H E I hf st hg;subst hP hw hK;obtain ⟨xs,hq,hx⟩:=hg;obtain ⟨its,rv,p,hz⟩:=I.tuple hq;obtain ⟨f0,f1,f2,f3,f4,f5⟩:=hf it (by simp);have hl:=rv.length;exact wpAny_pyNext_tuple_end (I.ok.hd hc) st (show s.heap.IsTuple a its.toArray from p) (by simp;omega) fun h' eb=>⟨rfl,I.turned (t':=s.toks) (fun b o hb e=>eb b o hb e) f0 f1 f3 f4 f5⟩
 self:=fun _ _ _ _ _ st h=>wpAny_pyIter_tupleiter st h
theorem yh {P:Program} {w:World} {K:PySem.W.Frag} {tg:Expr} (it:Addr) (lo:Int) (n:Nat):Turn P w K tg (Itr lo n) [it] it (fun i h=>IsRangeIter h it (lo+(i:Nat)*1) ((n:Int) - (i:Nat)) 1) where
 mem:=by simp
 obj:=fun i h st b hb=>by
   have e:b=it:=by simpa using hb
   subst e;exact ⟨_,st,fun v z=>by
     have z':Data.fields _=Data.cell v:=z;cases z'⟩
 keep:=fun i h h' st k=>k it (by simp) _ st
 item:=by
   intro X hP hw hK hc i pins s σ H E I hf st hg;subst hP hw hK;obtain ⟨f0,f1,f2,f3,f4,f5⟩:=hf it (by simp);have W:=Walks.range (prog:=X.prog) (w:=X.w) (I.ok.hd hc) it lo 1 n;refine W.item i s _ _ hg st fun v h' tk hv st' kk=>?_;obtain ⟨t,rfl⟩:=hv;have I1:Inv X pins σ H { s with heap:=h',toks:=tk }:=I.turned (fun b o hb e=>kk b o (by simpa using hb) e) f0 f1 f3 f4 f5;refine ⟨_,rfl,ub (s:={ s with heap:=h',toks:=tk }) (n:="range_iterator") st' rfl rfl (by decide) ⟨.int (lo+i),H,I1,⟨t,?_⟩,⟨rfl,rfl⟩,st',fun b hb=>(hf b hb).1⟩⟩;rw [Int.mul_one]
 done:=by
   intro X hP hw hK hc i pins s σ H E I hf st hg;subst hP hw hK;obtain ⟨f0,f1,f2,f3,f4,f5⟩:=hf it (by simp);exact wpAny_pyNext_range_end (I.ok.hd hc) st (by have:n<=i:=hg;omega) fun h' eb=>⟨rfl,I.turned (t':=s.toks) (fun b o hb e=>eb b o hb e) f0 f1 f3 f4 f5⟩
 self:=fun _ _ _ _ _ st h=>wpAny_pyIter_rangeiter st h
end L2
namespace L2
open PySem PySem.Spec PyProof.Rows
section
variable {X:Cx} {tg:Expr}
def yo (K:PySem.W.Frag) (tl:TE):TI:=fun σ H R=>tl σ H fun x H1=>∃ a,x=.ref a/\(∃ xs,SqL K H1 a xs)/\R (Itl K a) H1
def BF (K:PySem.W.Frag) (tl:TE):TI:=fun σ H R=>tl σ H fun x H1=>∃ a,x=.ref a/\(∃ xs,SqT K H1 a xs)/\R (Itt K a) H1
theorem kU {l:Expr} {tl:TE} (hl:PE X l tl):PI X tg l (yo X.K tl):=by
 intro pins s σ H R I h;refine bd (hl pins s σ H _ I h) fun v s1 x H1 I1 r1 q1=>?_;obtain ⟨a,e,⟨xs,hq⟩,q⟩:=q1;subst e;cases r1;obtain ⟨its,rv,p,hz⟩:=I1.list hq;refine wpAny_pyIter_list p.isList ?_;refine ⟨s1.heap.objs.size,[s1.heap.objs.size],_,_,H1,rfl,I1.kept (t':=s1.toks) fun b o e=>Heap.get?_push_of_some _ e,yX a _,⟨_,Heap.get?_push_size _ rfl,rfl,rfl⟩,fun b hb=>?_,q⟩;have e:b=s1.heap.objs.size:=by simpa using hb
 subst e;exact I1.fpOk (Nat.le_refl _) (I1.hok.fresh (Nat.le_refl _))
theorem qQ {l:Expr} {tl:TE} (hl:PE X l tl):PI X tg l (BF X.K tl):=by
 intro pins s σ H R I h;refine bd (hl pins s σ H _ I h) fun v s1 x H1 I1 r1 q1=>?_;obtain ⟨a,e,⟨xs,hq⟩,q⟩:=q1;subst e;cases r1;obtain ⟨its,rv,p,hz⟩:=I1.tuple hq;refine wpAny_pyIter_tuple (show s1.heap.IsTuple a its.toArray from p) ?_;refine ⟨s1.heap.objs.size,[s1.heap.objs.size],_,_,H1,rfl,I1.kept (t':=s1.toks) fun b o e=>Heap.get?_push_of_some _ e,xZ a _,⟨_,Heap.get?_push_size _ rfl,rfl,rfl⟩,fun b hb=>?_,q⟩;have e:b=s1.heap.objs.size:=by simpa using hb
 subst e;exact I1.fpOk (Nat.le_refl _) (I1.hok.fresh (Nat.le_refl _))
theorem Bp {pins:List (Addr × Obj)} {σ:St} {H:Hp} {s:Shared} {R:It->Hp->Prop} {E:Value->Shared->Prop} {lo hi:Int} {t u v:Tok} {tk:Nat} (I:Inv X pins σ H s) (h1:-(2^62)<=lo) (h2:lo<2^62) (h3:-(2^62)<=hi) (h4:hi<2^62)
   (q:R (Itr lo (hi - lo).toNat) H):wpAny (model X.prog X.w) X.A (pyIter (.ref s.heap.objs.size)) (PIE X pins σ tg R) E { s with heap:=s.heap.push { cls:=.type "range",data:=.fields #[.int lo t,.int hi u,.int 1 v] },toks:=tk }:=by
 refine wpAny_pyIter_range (IsRange.new ..) (small_one h1 h2 h3 h4) ?_;have I1:Inv X pins σ H { s with heap:=s.heap.push { cls:=.type "range",data:=.fields #[.int lo t,.int hi u,.int 1 v] },toks:=tk }:=I.kept fun b o e=>Heap.get?_push_of_some _ e;refine ⟨(s.heap.push { cls:=.type "range",data:=.fields #[.int lo t,.int hi u,.int 1 v] }).objs.size,[(s.heap.push { cls:=.type "range",data:=.fields #[.int lo t,.int hi u,.int 1 v] }).objs.size],_,_,H,rfl,
   I1.kept (t':=tk) fun b o e=>Heap.get?_push_of_some _ e,yh _ lo (hi - lo).toNat,?_,fun b hb=>?_,q⟩
 . have e1:lo+((0:Nat):Int)*1=lo:=by simp
   have e2:(((hi - lo).toNat:Nat):Int) - ((0:Nat):Int)=Builtin.Range.rangeSize lo hi 1:=by rw [rangeSize_one];split <;> omega
   show IsRangeIter _ _ (lo+((0:Nat):Int)*1) ((((hi - lo).toNat:Nat):Int) - ((0:Nat):Int)) 1;rw [e1,e2];exact Heap.get?_push_size _ rfl
 . have e:b=(s.heap.push { cls:=.type "range",data:=.fields #[.int lo t,.int hi u,.int 1 v] }).objs.size:=by simpa using hb
   subst e;exact I1.fpOk (Nat.le_refl _) (I1.hok.fresh (Nat.le_refl _))
def xL (ta:TA):TI:=fun σ H R=>ta σ H fun vs H1=>∃ j:Int,vs=[.int j]/\-(2^62)<=j/\j<2^62/\R (Itr 0 j.toNat) H1
def B9 (ta:TA):TI:=fun σ H R=>ta σ H fun vs H1=>∃ i j:Int,vs=[.int i,.int j]/\(-(2^62)<=i/\i<2^62/\-(2^62)<=j/\j<2^62)/\R (Itr i (j - i).toNat) H1
theorem jP {a:Expr} {ta:TA} {p pos:Pos} (hg:Gl X "range") (hm:X.mg "range"=none) (ha:PA X [a] ta) (hs:starEach [a] X.env=[(false,eval a X.env)]:=by rfl):PI X tg (.Call (.Name "range" p) [a] [] pos) (xL ta):=by
 intro pins s σ H R I h;refine Call_ (kO I hg hm boot_range (PyProof.Rows.callWith_type1 (mZ (ha pos pins s σ H _ I h) fun us s1 vs H1 I1 r1 q1=>?_) hs rfl));obtain ⟨j,e,q1,q2,q⟩:=q1;subst e;cases r1 with
 | cons r rr =>
   cases rr;obtain ⟨t,rfl⟩:=r;exact call_range_1 (Bp I1 (by omega) (by omega) q1 q2 (by simpa using q))
def DN (wi:TI) (g:TG) (tb:TS):TS:=fun D σ H=>wi σ H fun J H1=>∃ W:Nat->Nat->St->Hp->Prop,(∃ m,W 0 m σ H1)/\∀ i m σ H,W i m σ H ->
 (J.stop i H/\D.nx σ H)\/(J.go i H/\∃ N:St->Hp->Prop,(∀ σ' H',N σ' H'->∃ m',m'<m/\W (i+1) m' σ' H')/\∀ x H',J.yld i H x H'->g x σ H' fun σ2 H2=>tb { D with nx:=N,ct:=N,bk:=D.nx } σ2 H2)
def jo (fp:List Addr) (h:Heap):List (Addr × Obj):=fp.filterMap fun b=>(h.get? b).map fun o=>(b,o)
theorem dL {fp:List Addr} {h:Heap} {b:Addr} {o:Obj} (hb:b∈fp) (e:h.get? b=some o):(b,o)∈jo fp h:=List.mem_filterMap.mpr ⟨b,hb,by rw [e];rfl⟩
theorem zD {fp:List Addr} {h:Heap} {p:Addr × Obj} (hp:p∈jo fp h):p.1∈fp/\h.get? p.1=some p.2:=by
 obtain ⟨b,hb,e⟩:=List.mem_filterMap.mp hp;cases q:h.get? b with
 | none=>rw [q] at e;cases e
 | some o =>
   rw [q] at e;have e':(b,o)=p:=Option.some.inj e;subst e';exact ⟨hb,q⟩
theorem Inv.pinned {pins:List (Addr × Obj)} {σ:St} {H:Hp} {s:Shared} {fp:List Addr} (I:Inv X pins σ H s) (hf:∀ b∈fp,fi X pins H b) (ho:∀ b∈fp,∃ o,s.heap.get? b=some o/\∀ v,o.data≠.cell v):Inv X (pins++jo fp s.heap) σ H s :=
 I.pins_of fun p hp=>(List.mem_append.mp hp).elim (fun z=>I.pin p (List.mem_append_right _ z)) fun z=>by
   obtain ⟨hb,e⟩:=zD z;obtain ⟨f0,f1,f2,_⟩:=hf p.1 hb;obtain ⟨o,e',d⟩:=ho p.1 hb;rw [e] at e';cases e';exact ⟨e,f0,f1,f2,d⟩
theorem Inv.unpinned {pins pl:List (Addr × Obj)} {σ:St} {H:Hp} {s:Shared} (I:Inv X (pins++pl) σ H s):Inv X pins σ H s:=I.pins_of fun p hp=>I.pin p (List.mem_append_right _ (List.mem_append_left _ hp))
theorem fh {iter:Expr} {body:List Stmt} {wi:TI} {g:TG} {tb:TS} {pos:Pos} (hp:PassesOwn (model X.prog X.w) X.A X.env X.xe) (hc:X.calm=true) (hi:PI X tg iter wi) (hg:PG X tg g) (hb:PSs X body tb)
   (hs:∀ x,foldedSetIterable iter X.env x=pure x:=by intro _;rfl):PS X (.For tg iter body [] pos) (DN wi g tb):=by
 intro pins s σ H D I h;refine wpAny_For (thn (hi pins s σ H _ I h) fun v s1 h1=>thn h1 fun itv s2 h2=>?_) hs;obtain ⟨it,fp,tn,J,H2,e,I2,T,st2,f2,W,⟨m0,w0⟩,turn⟩:=h2;subst e;have stat:∀ {H':Hp},(∀ b∈fp,H' b=none)->∀ b∈fp,fi X pins H' b:=fun hn b hb=>⟨hn b hb,(f2 b hb).2⟩;refine codeAny_forLoop_any (fun n s'=>∃ i σ' H',Inv X pins σ' H' s'/\tn i s'.heap/\(∀ b∈fp,H' b=none)/\W i n σ' H') ?_ m0 ⟨0,σ,H2,I2,st2,fun b hb=>(f2 b hb).1,w0⟩;rintro n s3 ⟨i,σ3,H3,I3,st3,fr3,w3⟩;rcases turn i n σ3 H3 w3 with ⟨stop,qn⟩|⟨go,N,hN,step⟩
 . refine wpAny_passesOwn hp (thn (T.done X rfl rfl rfl hc i pins s3 σ3 H3 X.xe I3 (stat fr3) st3 stop) fun r s4 ⟨hr,I4⟩=>?_);subst hr;exact wpAny_execs_nil ⟨σ3,H3,I4,qn⟩
 . refine wpAny_passesOwn hp (thn (T.item X rfl rfl rfl hc i pins s3 σ3 H3 X.xe I3 (stat fr3) st3 go) fun r s4 ⟨u,hr,h4⟩=>?_);subst hr;refine wpAny_passesOwn hp (thn h4 fun _ s5 ⟨x,H5,I5,r5,y5,st5,fr5⟩=>?_);have I5':=I5.pinned (stat fr5) (T.obj _ _ st5);refine wpAny_passesOwn hp (thn (hg _ s5 σ3 H5 x u _ I5' r5 (step x H5 y5)) fun _ s6 ⟨σ6,H6,I6,q6⟩=>?_);refine wpAny_passesOwn hp (thn (hb _ s6 σ6 H6 _ I6 q6) fun f s7 q7=>?_);have again:∀ {σ7:St} {H7:Hp},Inv X (pins++jo fp s5.heap) σ7 H7 s7->N σ7 H7->∃ m,m<n/\∃ i σ' H',Inv X pins σ' H' s7/\tn i s7.heap/\(∀ b∈fp,H' b=none)/\W i m σ' H':=fun {σ7 H7} I7 n7=>by
     obtain ⟨m',hm,w7⟩:=hN σ7 H7 n7;refine ⟨m',hm,i+1,σ7,H7,I7.unpinned,T.keep _ _ _ st5 fun b hb o e=>(I7.pin (b,o) (List.mem_append_right _ (List.mem_append_right _ (dL hb e)))).1,fun b hb=>?_,w7⟩;obtain ⟨o,e,d⟩:=T.obj _ _ st5 b hb;exact (I7.pin (b,o) (List.mem_append_right _ (List.mem_append_right _ (dL hb e)))).2.1
   cases f with
   | next=>obtain ⟨σ7,H7,I7,n7⟩:=q7;exact again I7 n7
   | cont=>obtain ⟨σ7,H7,I7,n7⟩:=q7;exact again I7 n7
   | brk=>obtain ⟨σ7,H7,I7,q7⟩:=q7;exact ⟨σ7,H7,I7.unpinned,q7⟩
   | ret v=>obtain ⟨x7,σ7,H7,I7,r7,q7⟩:=q7;exact ⟨x7,σ7,H7,I7.unpinned,r7,q7⟩
end
theorem AI {K:PySem.W.Frag} {a:Addr} {xs:List V} {g:TG} {tb:TS} {D:Ends} {σ:St} {H:Hp} (Pv:Nat->St->Hp->Prop) (h0:Pv 0 σ H) (hl:∀ i σ H,i<=xs.length->Pv i σ H->SqL K H a xs)
   (hs:∀ i x σ H,xs[i]?=some x->Pv i σ H->g x σ H fun σ2 H2=>tb { D with nx:=Pv (i+1),ct:=Pv (i+1),bk:=D.nx } σ2 H2) (hd:∀ σ H,Pv xs.length σ H->D.nx σ H) :
   ∃ W:Nat->Nat->St->Hp->Prop,(∃ m,W 0 m σ H)/\∀ i m σ H,W i m σ H ->
     ((Itl K a).stop i H/\D.nx σ H)\/((Itl K a).go i H/\∃ N:St->Hp->Prop,(∀ σ' H',N σ' H'->∃ m',m'<m/\W (i+1) m' σ' H')/\∀ x H',(Itl K a).yld i H x H'->g x σ H' fun σ2 H2=>tb { D with nx:=N,ct:=N,bk:=D.nx } σ2 H2):=by
 refine ⟨fun i m σ H=>m=xs.length - i/\i<=xs.length/\Pv i σ H,⟨xs.length,by simp,Nat.zero_le _,h0⟩,?_⟩;rintro i m σ H ⟨rfl,hi,p⟩;have q:=hl i σ H hi p;by_cases hlt:i<xs.length
 . refine .inr ⟨⟨xs,xs[i],q,by simp [hlt]⟩,Pv (i+1),fun σ' H' p'=>⟨xs.length - (i+1),by omega,rfl,hlt,p'⟩,fun x H' y=>?_⟩;obtain ⟨e,y⟩:=y;subst e;exact hs i x σ _ (y xs q) p
 . have e:i=xs.length:=by omega
   subst e;exact .inl ⟨⟨xs,q,Nat.le_refl _⟩,hd σ H p⟩
theorem wZ {K:PySem.W.Frag} {a:Addr} {xs:List V} {g:TG} {tb:TS} {D:Ends} {σ:St} {H:Hp} (Pv:Nat->St->Hp->Prop) (h0:Pv 0 σ H) (hl:∀ i σ H,i<=xs.length->Pv i σ H->SqT K H a xs)
   (hs:∀ i x σ H,xs[i]?=some x->Pv i σ H->g x σ H fun σ2 H2=>tb { D with nx:=Pv (i+1),ct:=Pv (i+1),bk:=D.nx } σ2 H2) (hd:∀ σ H,Pv xs.length σ H->D.nx σ H) :
   ∃ W:Nat->Nat->St->Hp->Prop,(∃ m,W 0 m σ H)/\∀ i m σ H,W i m σ H ->
     ((Itt K a).stop i H/\D.nx σ H)\/((Itt K a).go i H/\∃ N:St->Hp->Prop,(∀ σ' H',N σ' H'->∃ m',m'<m/\W (i+1) m' σ' H')/\∀ x H',(Itt K a).yld i H x H'->g x σ H' fun σ2 H2=>tb { D with nx:=N,ct:=N,bk:=D.nx } σ2 H2):=by
 refine ⟨fun i m σ H=>m=xs.length - i/\i<=xs.length/\Pv i σ H,⟨xs.length,by simp,Nat.zero_le _,h0⟩,?_⟩;rintro i m σ H ⟨rfl,hi,p⟩;have q:=hl i σ H hi p;by_cases hlt:i<xs.length
 . refine .inr ⟨⟨xs,xs[i],q,by simp [hlt]⟩,Pv (i+1),fun σ' H' p'=>⟨xs.length - (i+1),by omega,rfl,hlt,p'⟩,fun x H' y=>?_⟩;obtain ⟨e,y⟩:=y;subst e;exact hs i x σ _ (y xs q) p
 . have e:i=xs.length:=by omega
   subst e;exact .inl ⟨⟨xs,q,Nat.le_refl _⟩,hd σ H p⟩
theorem zy {lo:Int} {n:Nat} {g:TG} {tb:TS} {D:Ends} {σ:St} {H:Hp} (Pv:Nat->St->Hp->Prop) (h0:Pv 0 σ H)
   (hs:∀ i σ H,i<n->Pv i σ H->g (.int (lo+i)) σ H fun σ2 H2=>tb { D with nx:=Pv (i+1),ct:=Pv (i+1),bk:=D.nx } σ2 H2) (hd:∀ σ H,Pv n σ H->D.nx σ H) :
   ∃ W:Nat->Nat->St->Hp->Prop,(∃ m,W 0 m σ H)/\∀ i m σ H,W i m σ H ->
     ((Itr lo n).stop i H/\D.nx σ H)\/((Itr lo n).go i H/\∃ N:St->Hp->Prop,(∀ σ' H',N σ' H'->∃ m',m'<m/\W (i+1) m' σ' H')/\∀ x H',(Itr lo n).yld i H x H'->g x σ H' fun σ2 H2=>tb { D with nx:=N,ct:=N,bk:=D.nx } σ2 H2):=by
 refine ⟨fun i m σ H=>m=n - i/\i<=n/\Pv i σ H,⟨n,by simp,Nat.zero_le _,h0⟩,?_⟩;rintro i m σ H ⟨rfl,hi,p⟩;by_cases hlt:i<n
 . refine .inr ⟨hlt,Pv (i+1),fun σ' H' p'=>⟨n - (i+1),by omega,rfl,hlt,p'⟩,fun x H' y=>?_⟩;obtain ⟨e,y⟩:=y;subst e y;exact hs i σ _ hlt p
 . have e:i=n:=by omega
   subst e;exact .inl ⟨Nat.le_refl _,hd σ H p⟩
end L2
namespace L2
open PySem PySem.Spec PyProof.Rows
abbrev R2:=V->V->Hp->VK->Prop
def OpR (X:Cx) (f:Value->Value->Sem Value) (r:R2):Prop :=
 ∀ (pins:List (Addr × Obj)) (s:Shared) (σ:St) (H:Hp) (x y:V) (v u:Value) (Q:VK),Inv X pins σ H s->RelV x v->RelV y u->r x y H Q ->
   wpAny (model X.prog X.w) X.A (f v u) (EP X pins σ Q) X.xe s
def UnR (X:Cx) (f:Value->Sem Value) (r:V->Hp->VK->Prop):Prop :=
 ∀ (pins:List (Addr × Obj)) (s:Shared) (σ:St) (H:Hp) (x:V) (v:Value) (Q:VK),Inv X pins σ H s->RelV x v->r x H Q ->
   wpAny (model X.prog X.w) X.A (f v) (EP X pins σ Q) X.xe s
def gN (X:Cx) (f:Value) (r:List V->Hp->VK->Prop):Prop :=
 ∀ (pins:List (Addr × Obj)) (s:Shared) (σ:St) (H:Hp) (xs:List V) (us:List Value) (Q:VK),Inv X pins σ H s->Vals xs us->r xs H Q ->
   wpAny (model X.prog X.w) X.A (call f us) (EP X pins σ Q) X.xe s
def El (X:Cx) (r:V->Hp->(Bool->Hp->Prop)->Prop):Prop :=
 ∀ (pins:List (Addr × Obj)) (s:Shared) (σ:St) (H:Hp) (x:V) (v:Value) (Q:Bool->Hp->Prop),Inv X pins σ H s->RelV x v->r x H Q ->
   wpAny (model X.prog X.w) X.A (truthy v) (TP X pins σ Q) X.xe s
def tOp (r:R2) (ta tb:TE):TE:=fun σ H Q=>ta σ H fun x H1=>tb σ H1 fun y H2=>r x y H2 Q
def tUn (r:V->Hp->VK->Prop) (ta:TE):TE:=fun σ H Q=>ta σ H fun x H1=>r x H1 Q
def rI (C:Int->Int->Prop) (g:Int->Int->V):R2:=fun x y H Q=>∃ i j,x=.int i/\y=.int j/\C i j/\Q (g i j) H
def rI0 (g:Int->Int->V):R2:=fun x y H Q=>∃ i j,x=.int i/\y=.int j/\Q (g i j) H
def rU (g:Int->V):V->Hp->VK->Prop:=fun x H Q=>∃ i,x=.int i/\Q (g i) H
section
variable {X:Cx} {a b c:Expr} {ta tb tc:TE} {pos:Pos}
theorem AF (ha:PE X a ta) (hb:PE X b tb) {pins:List (Addr × Obj)} {s:Shared} {σ:St} {H:Hp} {R:V->V->Hp->Prop} (I:Inv X pins σ H s)
   (h:ta σ H fun x H1=>tb σ H1 fun y H2=>R x y H2) {Q:Value->Shared->Prop} {f:Value->Value->Sem Value}
   (hf:∀ v u s2 x y H2,Inv X pins σ H2 s2->RelV x v->RelV y u->R x y H2->wpAny (model X.prog X.w) X.A (f v u) Q X.xe s2) :
   wpAny (model X.prog X.w) X.A (eval a X.env) (fun v s₁=>wpAny (model X.prog X.w) X.A (eval b X.env) (fun u s₂=>wpAny (model X.prog X.w) X.A (f v u) Q X.xe s₂) X.xe s₁) X.xe s:=by
 refine bd (ha pins s σ H _ I h) fun v s1 x H1 I1 r1 q1=>?_;refine bd (hb pins s1 σ H1 _ I1 q1) fun u s2 y H2 I2 r2 q2=>?_;exact hf v u s2 x y H2 I2 r1 r2 q2
theorem aq {op:Operator} {r:R2} (ho:OpR X (binaryOp op) r) (ha:PE X a ta) (hb:PE X b tb):PE X (.BinOp a op b pos) (tOp r ta tb):=by
 intro pins s σ H Q I h;exact wpAny_BinOp (AF ha hb I h fun v u s2 x y H2 I2 rx ry q=>ho pins s2 σ H2 x y v u Q I2 rx ry q)
theorem pB {op:UnaryOp} {r:V->Hp->VK->Prop} (ho:UnR X (unaryOp op) r) (ha:PE X a ta):PE X (.UnaryOp op a pos) (tUn r ta):=by
 intro pins s σ H Q I h;exact UnaryOp_ (bd (ha pins s σ H _ I h) fun v s1 x H1 I1 r1 q1=>ho pins s1 σ H1 x v Q I1 r1 q1)
theorem opI {f:Value->Value->Sem Value} {C:Int->Int->Prop} {g:Int->Int->Int}
   (rule:∀ (i j:Int) (t u:Tok) (s:Shared) (Q:Value->Shared->Prop) (E:Value->Shared->Prop),C i j->Q (.int (g i j) s.toks) { s with toks:=s.toks+1 }->wpAny (model X.prog X.w) X.A (f (.int i t) (.int j u)) Q E s) :
   OpR X f (rI C fun i j=>.int (g i j)):=by
 intro pins s σ H x y v u Q I rx ry h;obtain ⟨i,j,rfl,rfl,hc,q⟩:=h;obtain ⟨t,rfl⟩:=rx;obtain ⟨t',rfl⟩:=ry;exact rule i j t t' s _ _ hc ⟨.int (g i j),H,I.tok _,⟨_,rfl⟩,q⟩
theorem D5 {f:Value->Value->Sem Value} {g:Int->Int->Int}
   (rule:∀ (i j:Int) (t u:Tok) (s:Shared) (Q:Value->Shared->Prop) (E:Value->Shared->Prop),Q (.int (g i j) s.toks) { s with toks:=s.toks+1 }->wpAny (model X.prog X.w) X.A (f (.int i t) (.int j u)) Q E s) :
   OpR X f (rI0 fun i j=>.int (g i j)):=by
 intro pins s σ H x y v u Q I rx ry h;obtain ⟨i,j,rfl,rfl,q⟩:=h;obtain ⟨t,rfl⟩:=rx;obtain ⟨t',rfl⟩:=ry;exact rule i j t t' s _ _ ⟨.int (g i j),H,I.tok _,⟨_,rfl⟩,q⟩
theorem xV {f:Value->Value->Sem Value} {g:Int->Int->Bool}
   (rule:∀ (i j:Int) (t u:Tok) (s:Shared) (Q:Value->Shared->Prop) (E:Value->Shared->Prop),Q (.bool (g i j)) s->wpAny (model X.prog X.w) X.A (f (.int i t) (.int j u)) Q E s) :
   OpR X f (rI0 fun i j=>.bl (g i j)):=by
 intro pins s σ H x y v u Q I rx ry h;obtain ⟨i,j,rfl,rfl,q⟩:=h;obtain ⟨t,rfl⟩:=rx;obtain ⟨t',rfl⟩:=ry;exact rule i j t t' s _ _ ⟨.bl (g i j),H,I,rfl,q⟩
def Er (i j:Int):Prop:=0<j/\j<1073741824
def DC (i j:Int):Prop:=0<=j/\j<=1000000/\i.natAbs<2^64
def CMul (i j:Int):Prop:=(-(2^64)<i/\i<2^64)\/(-(2^64)<j/\j<2^64)
theorem CMul.ok {i j:Int} (h:CMul i j):IntMulOk i j:=by
 rcases h with ⟨h1,h2⟩|⟨h1,h2⟩
 . exact .of_left (intBits_le_64 h1 h2)
 . exact .of_right (intBits_le_64 h1 h2)
theorem cj:OpR X (binaryOp .Add) (rI0 fun i j=>.int (i+j)):=D5 fun _ _ _ _ _ _ _ q=>add_int q
theorem kL:OpR X (binaryOp .Sub) (rI0 fun i j=>.int (i - j)):=D5 fun _ _ _ _ _ _ _ q=>sub_int q
theorem rj:OpR X (binaryOp .Mult) (rI CMul fun i j=>.int (i*j)):=opI fun _ _ _ _ _ _ _ hc q=>mul_int q hc.ok
theorem pD:OpR X (binaryOp .FloorDiv) (rI Er fun i j=>.int (i / j)):=opI fun i j _ _ _ _ _ hc q=>by
 have h1:(0:Int)<j:=hc.1;have h2:j<1073741824:=hc.2;exact floordiv_int (by omega) (by rw [Int.fdiv_eq_ediv_of_nonneg i (by omega)];exact q) (.inl (PyProof.noPylong_small (by omega)))
theorem eO:OpR X (binaryOp .Mod) (rI (fun _ j=>0<j) fun i j=>.int (i % j)):=opI fun i j _ _ _ _ _ hc q=>by
 have h1:(0:Int)<j:=hc;exact mod_int' (by omega) (by rw [Int.fmod_eq_emod_of_nonneg i (by omega)];exact q)
theorem dw:OpR X (binaryOp .Pow) (rI DC fun i j=>.int (i^j.toNat)):=opI fun _ _ _ _ _ _ _ hc q=>pow_int_small hc.1 hc.2.1 hc.2.2 q
theorem unI {f:Value->Sem Value} {g:Int->Int}
   (rule:∀ (i:Int) (t:Tok) (s:Shared) (Q:Value->Shared->Prop) (E:Value->Shared->Prop),Q (.int (g i) s.toks) { s with toks:=s.toks+1 }->wpAny (model X.prog X.w) X.A (f (.int i t)) Q E s) :
   UnR X f (rU fun i=>.int (g i)):=by
 intro pins s σ H x v Q I rx h;obtain ⟨i,rfl,q⟩:=h;obtain ⟨t,rfl⟩:=rx;exact rule i t s _ _ ⟨.int (g i),H,I.tok _,⟨_,rfl⟩,q⟩
theorem kz:UnR X (unaryOp .USub) (rU fun i=>.int (-i)):=unI fun _ _ _ _ _ q=>neg_int q
end
def og:V->V->Bool
 | .non,.non=>true|.non,.int _=>true|.int _,.non=>true|.non,.bl _=>true|.bl _,.non=>true|.non,.str _=>true|.str _,.non=>true
 | .int _,.int _=>true|.bl _,.bl _=>true|.str _,.str _=>true|.byt _,.byt _=>true
 | .int _,.str _=>true|.str _,.int _=>true|.bl _,.str _=>true|.str _,.bl _=>true
 | _,_=>false
def rEq:R2:=fun x y H Q=>og x y=true/\Q (.bl (decide (x=y))) H
def rNe:R2:=fun x y H Q=>og x y=true/\Q (.bl (!decide (x=y))) H
theorem xk {i j:Int}:decide (V.int i=V.int j)=(i == j):=by
 rw [Bool.eq_iff_iff];simp
theorem zw {i j:Bool}:decide (V.bl i=V.bl j)=(i == j):=by
 rw [Bool.eq_iff_iff];simp
theorem xc {i j:Str}:decide (V.str i=V.str j)=(i == j):=by
 rw [Bool.eq_iff_iff];simp
theorem wT {i j:Array UInt8}:decide (V.byt i=V.byt j)=(i.toList == j.toList):=by
 rw [Bool.eq_iff_iff];cases i;cases j;simp
section
variable {X:Cx} {a b c:Expr} {ta tb tc:TE} {pos:Pos}
theorem a5 {pins:List (Addr × Obj)} {σ:St} {H:Hp} {s:Shared} {Q:VK} {k k':Bool} (I:Inv X pins σ H s) (q:Q (.bl k) H) (e:k=k'):EP X pins σ Q (.bool k') s:=by
 subst e;exact ⟨.bl k,H,I,rfl,q⟩
theorem bA:OpR X (compareOp .Eq) rEq:=by
 intro pins s σ H x y v u Q I rx ry h;obtain ⟨hs,q⟩:=h;cases x with
 | non =>
   cases rx;cases y with
   | non=>cases ry;exact PySem.EqNone.eq_none_none (a5 I q (by simp))
   | bl j=>cases ry;exact PySem.EqNone.eq_none_bool (a5 I q (by simp))
   | int j=>obtain ⟨t',rfl⟩:=ry;exact PySem.EqNone.eq_none_int (a5 I q (by simp))
   | str j=>obtain ⟨t',rfl⟩:=ry;exact PySem.EqNone.eq_none_str (a5 I q (by simp))
   | _=>exact absurd (show false=true from hs) Bool.false_ne_true
 | bl i =>
   cases rx;cases y with
   | non=>cases ry;exact PySem.EqNone.eq_bool_none (a5 I q (by simp))
   | bl j=>cases ry;exact eq_bool (a5 I q zw)
   | str j=>obtain ⟨t',rfl⟩:=ry;exact PySem.EqMixed.eq_bool_str (a5 I q (by simp))
   | _=>exact absurd (show false=true from hs) Bool.false_ne_true
 | int i =>
   obtain ⟨t,rfl⟩:=rx;cases y with
   | non=>cases ry;exact PySem.EqNone.eq_int_none (a5 I q (by simp))
   | int j=>obtain ⟨t',rfl⟩:=ry;exact eq_int (a5 I q xk)
   | str j=>obtain ⟨t',rfl⟩:=ry;exact PySem.EqMixed.eq_int_str (a5 I q (by simp))
   | _=>exact absurd (show false=true from hs) Bool.false_ne_true
 | str i =>
   obtain ⟨t,rfl⟩:=rx;cases y with
   | non=>cases ry;exact PySem.EqNone.eq_str_none (a5 I q (by simp))
   | bl j=>cases ry;exact PySem.EqMixed.eq_str_bool (a5 I q (by simp))
   | int j=>obtain ⟨t',rfl⟩:=ry;exact PySem.EqMixed.eq_str_int (a5 I q (by simp))
   | str j=>obtain ⟨t',rfl⟩:=ry;exact eq_str (a5 I q xc)
   | _=>exact absurd (show false=true from hs) Bool.false_ne_true
 | byt i =>
   obtain ⟨t,rfl⟩:=rx;cases y with
   | byt j=>obtain ⟨t',rfl⟩:=ry;exact PySem.W.eq_bytes (a5 I q wT)
   | _=>exact absurd (show false=true from hs) Bool.false_ne_true
 | _=>cases y <;> exact absurd (show false=true from hs) Bool.false_ne_true
theorem ud:OpR X (compareOp .NotEq) rNe:=by
 intro pins s σ H x y v u Q I rx ry h;obtain ⟨hs,q⟩:=h;cases x with
 | non =>
   cases rx;cases y with
   | non=>cases ry;exact PySem.EqNone.ne_none_none (a5 I q (by simp))
   | bl j=>cases ry;exact PySem.EqNone.ne_none_bool (a5 I q (by simp))
   | int j=>obtain ⟨t',rfl⟩:=ry;exact PySem.EqNone.ne_none_int (a5 I q (by simp))
   | str j=>obtain ⟨t',rfl⟩:=ry;exact PySem.EqNone.ne_none_str (a5 I q (by simp))
   | _=>exact absurd (show false=true from hs) Bool.false_ne_true
 | bl i =>
   cases rx;cases y with
   | non=>cases ry;exact PySem.EqNone.ne_bool_none (a5 I q (by simp))
   | bl j=>cases ry;exact ne_bool (a5 I q (congrArg not zw))
   | str j=>obtain ⟨t',rfl⟩:=ry;exact PySem.EqMixed.ne_bool_str (a5 I q (by simp))
   | _=>exact absurd (show false=true from hs) Bool.false_ne_true
 | int i =>
   obtain ⟨t,rfl⟩:=rx;cases y with
   | non=>cases ry;exact PySem.EqNone.ne_int_none (a5 I q (by simp))
   | int j=>obtain ⟨t',rfl⟩:=ry;exact ne_int (a5 I q (congrArg not xk))
   | str j=>obtain ⟨t',rfl⟩:=ry;exact PySem.EqMixed.ne_int_str (a5 I q (by simp))
   | _=>exact absurd (show false=true from hs) Bool.false_ne_true
 | str i =>
   obtain ⟨t,rfl⟩:=rx;cases y with
   | non=>cases ry;exact PySem.EqNone.ne_str_none (a5 I q (by simp))
   | bl j=>cases ry;exact PySem.EqMixed.ne_str_bool (a5 I q (by simp))
   | int j=>obtain ⟨t',rfl⟩:=ry;exact PySem.EqMixed.ne_str_int (a5 I q (by simp))
   | str j=>obtain ⟨t',rfl⟩:=ry;exact ne_str (a5 I q (congrArg not xc))
   | _=>exact absurd (show false=true from hs) Bool.false_ne_true
 | byt i =>
   obtain ⟨t,rfl⟩:=rx;cases y with
   | byt j=>obtain ⟨t',rfl⟩:=ry;exact PySem.W.ne_bytes (a5 I q (congrArg not wT))
   | _=>exact absurd (show false=true from hs) Bool.false_ne_true
 | _=>cases y <;> exact absurd (show false=true from hs) Bool.false_ne_true
theorem py:OpR X (compareOp .Lt) (rI0 fun i j=>.bl (decide (i<j))):=xV fun _ _ _ _ _ _ _ q=>lt_int q
theorem qM:OpR X (compareOp .LtE) (rI0 fun i j=>.bl (decide (i<=j))):=xV fun _ _ _ _ _ _ _ q=>le_int q
theorem ye:OpR X (compareOp .Gt) (rI0 fun i j=>.bl (decide (j<i))):=xV fun _ _ _ _ _ _ _ q=>gt_int q
theorem Eb:OpR X (compareOp .GtE) (rI0 fun i j=>.bl (decide (j<=i))):=xV fun _ _ _ _ _ _ _ q=>ge_int q
theorem ay (b:Expr) {op:CmpOp} (h:op≠.In:=by decide) (h2:op≠.NotIn:=by decide):behindInMarks op b=false:=by
 have e1:(op == CmpOp.In)=false:=by cases op <;> first|rfl|exact absurd rfl h
 have e2:(op == CmpOp.NotIn)=false:=by cases op <;> first|rfl|exact absurd rfl h2
 cases b <;> simp [behindInMarks,e1,e2]
theorem g8 {op:CmpOp} {r:R2} (ho:OpR X (compareOp op) r) (ha:PE X a ta) (hb:PE X b tb) (hm:behindInMarks op b=false):PE X (.Compare a [op] [b] pos) (tOp r ta tb):=by
 intro pins s σ H Q I h;exact wpAny_Compare1 (AF ha hb I h fun v u s2 x y H2 I2 rx ry q=>ho pins s2 σ H2 x y v u Q I2 rx ry q) hm
def uc (t:TE):TT:=fun σ H Q=>t σ H fun x H'=>∃ k,x=.bl k/\Q k H'
theorem aB {op:CmpOp} {r:R2} (ho:OpR X (compareOp op) r) (ha:PE X a ta) (hb:PE X b tb) (hm:behindInMarks op b=false):PT X (.Compare a [op] [b] pos) (uc (tOp r ta tb)):=by
 intro pins s σ H Q I h;refine wpAny_isTrue_Compare1 (bd (ha pins s σ H _ I h) fun v s1 x H1 I1 r1 q1=>bd (hb pins s1 σ H1 _ I1 q1) fun u s2 y H2 I2 r2 q2 =>
   bd (ho pins s2 σ H2 x y v u _ I2 r1 r2 q2) fun c s3 z H3 I3 r3 ⟨k,e,q3⟩=>?_) hm
 subst e;cases r3;exact wpAny_truthy_bool ⟨H3,I3,q3⟩
def qW (r r':R2) (ta tb tc:TE):TE:=fun σ H Q=>ta σ H fun x H1=>tb σ H1 fun y H2=>r x y H2 fun z H3=>∃ k,z=.bl k /\
 (if k=true then tc σ H3 fun w' H4=>r' y w' H4 Q else Q (.bl false) H3)
theorem B6 {op op':CmpOp} {r r':R2} (ho:OpR X (compareOp op) r) (ho':OpR X (compareOp op') r') (ha:PE X a ta) (hb:PE X b tb) (hc:PE X c tc)
   (hm:lastMarks [op,op'] [b,c]=false:=by with_unfolding_all rfl):PE X (.Compare a [op,op'] [b,c] pos) (qW r r' ta tb tc):=by
 intro pins s σ H Q I h;refine Compare_chain (bd (ha pins s σ H _ I h) fun v s1 x H1 I1 r1 q1=>chain_link (bd (hb pins s1 σ H1 _ I1 q1) fun u s2 y H2 I2 r2 q2 =>
   bd (ho pins s2 σ H2 x y v u _ I2 r1 r2 q2) fun d s3 z H3 I3 r3 ⟨k,e,q3⟩=>?_)) hm
 subst e;cases r3;refine wpAny_truthy_bool ?_;cases k with
 | false=>exact ite_ff ⟨.bl false,H3,I3,rfl,q3⟩
 | true=>exact ite_tt (chain_last (thn (hc pins s3 σ H3 _ I3 q3) fun w' s4 ⟨z',H4,I4,r4,q4⟩=>ho' pins s4 σ H4 y z' u w' Q I4 r2 r4 q4))
theorem uD {op op':CmpOp} {r r':R2} (ho:OpR X (compareOp op) r) (ho':OpR X (compareOp op') r') (ha:PE X a ta) (hb:PE X b tb) (hc:PE X c tc)
   (hm:lastMarks [op,op'] [b,c]=false:=by with_unfolding_all rfl):PT X (.Compare a [op,op'] [b,c] pos) (uc (qW r r' ta tb tc)):=by
 intro pins s σ H Q I h;refine isTrue_chain (bd (ha pins s σ H _ I h) fun v s1 x H1 I1 r1 q1=>test_link (bd (hb pins s1 σ H1 _ I1 q1) fun u s2 y H2 I2 r2 q2 =>
   bd (ho pins s2 σ H2 x y v u _ I2 r1 r2 q2) fun d s3 z H3 I3 r3 ⟨k,e,q3⟩=>?_)) hm
 subst e;cases r3;refine wpAny_truthy_bool ?_;cases k with
 | false =>
   obtain ⟨k',e',q'⟩:=q3;cases e';exact ite_ff ⟨H3,I3,q'⟩
 | true =>
   refine ite_tt (test_last (thn (hc pins s3 σ H3 _ I3 q3) fun w' s4 ⟨z',H4,I4,r4,q4⟩=>thn (ho' pins s4 σ H4 y z' u w' _ I4 r2 r4 q4) fun d' s5 ⟨z2,H5,I5,r5,k2,e2,q5⟩=>?_));subst e2;cases r5;exact wpAny_truthy_bool ⟨H5,I5,q5⟩
def DT (K:PySem.W.Frag) (x:V) (H:Hp) (k:Bool):Prop :=
 match x with
 | .non=>k=false
 | .bl b=>k=b
 | .int i=>k=(i != 0)
 | .str y=>y.length<=sizeLine/\k=((y.length:Int) != 0)
 | .byt y=>y.size<=sizeLine/\k=((y.size:Int) != 0)
 | .ref p=>(∃ xs,SqL K H p xs/\k=!xs.isEmpty)\/(∃ xs,SqT K H p xs/\k=!xs.isEmpty)\/∃ kvs,H p=some (.dK kvs)/\k=!kvs.isEmpty
 | _=>False
theorem yk {κ:Type} {kvs:List (κ × V)} {vs:List (κ × Value)} (r:KV kvs vs):(!vs.isEmpty)=!kvs.isEmpty:=by
 cases r <;> rfl
theorem rX {xs:List V} {its:List Value} (r:Vals xs its):(!its.toArray.isEmpty)=!xs.isEmpty:=by
 cases r <;> simp
theorem kE:(sizeLine:Nat)<2^63:=by rw [sizeLine_eq];decide
theorem CV:El X (fun x H Q=>∃ k,DT X.K x H k/\Q k H):=by
 intro pins s σ H x v Q I rx h;obtain ⟨k,e,q⟩:=h;have hl:=kE;have hs:sizeLine=16777216:=sizeLine_eq;cases x with
 | non =>
   cases rx;have e':k=false:=e;subst e';exact truthy_none ⟨H,I,q⟩
 | bl b =>
   cases rx;have e':k=b:=e;subst e';exact wpAny_truthy_bool ⟨H,I,q⟩
 | int i =>
   obtain ⟨t,rfl⟩:=rx;have e':k=(i != 0):=e;subst e';exact PySem.P.truthy_int ⟨H,I,q⟩
 | str y =>
   obtain ⟨t,rfl⟩:=rx;obtain ⟨hy,e'⟩:y.length<=sizeLine/\k=((y.length:Int) != 0):=e;subst e';exact PySem.P.truthy_str (by omega) ⟨H,I.tok _,q⟩
 | byt y =>
   obtain ⟨t,rfl⟩:=rx;obtain ⟨hy,e'⟩:y.size<=sizeLine/\k=((y.size:Int) != 0):=e;subst e';exact PySem.W.truthy_bytes (by omega) ⟨H,I.tok _,q⟩
 | ref p =>
   cases rx;have e':(∃ xs,SqL X.K H p xs/\k=!xs.isEmpty)\/(∃ xs,SqT X.K H p xs/\k=!xs.isEmpty)\/∃ kvs,H p=some (.dK kvs)/\k=!kvs.isEmpty:=e;rcases e' with ⟨xs,hx,e'⟩|⟨xs,hx,e'⟩|⟨kvs,hx,e'⟩
   . subst e';obtain ⟨its,r,pl,hz⟩:=I.list hx;have hlen:=r.length;exact wpAny_truthy_list pl.isList (by simp only [List.size_toArray];omega) ⟨H,I.tok _,by rw [rX r];exact q⟩
   . subst e';obtain ⟨its,r,pl,hz⟩:=I.tuple hx;have hlen:=r.length;exact truthy_tuple pl (by simp only [List.size_toArray];omega) ⟨H,I.tok _,by rw [rX r];exact q⟩
   . subst e';obtain ⟨hz,hS,vs,r,m⟩:kvs.length<=sizeLine/\(p == sysModules)=false/\∃ vs,KV kvs vs/\s.heap.DictOf (b9 X.prog X.w) p vs:=I.hok p _ hx;have hlen:kvs.length=vs.length:=Paired.length r;exact wpAny_truthy_dict hS m (by omega) ⟨H,I.tok _,by rw [yk r];exact q⟩
 | _=>exact (show False from e).elim
theorem ur (ha:PE X a ta) (he:∀ whole,isTrue a X.env whole=(do let v <- whole;standAt a.pos;holding [v] (truthy v))) :
   PT X a (fun σ H Q=>ta σ H fun x H'=>∃ k,DT X.K x H' k/\Q k H'):=by
 intro pins s σ H Q I h;exact isTrue_plain (bd (ha pins s σ H _ I h) fun v s1 x H1 I1 r1 q1=>CV pins s1 σ H1 x v Q I1 r1 q1) (he _)
theorem pk {x:V} {us:List Value} (r:Vals [x] us):∃ u,us=[u]/\RelV x u:=by
 cases r with
 | cons r1 r2=>cases r2;exact ⟨_,rfl,r1⟩
theorem yi {x y:V} {us:List Value} (r:Vals [x,y] us):∃ u w',us=[u,w']/\RelV x u/\RelV y w':=by
 cases r with
 | cons r1 r2 =>
   cases r2 with
   | cons r3 r4=>cases r4;exact ⟨_,_,rfl,r1,r3⟩
theorem sR (hc:X.calm=true):gN X (.builtin "max") (fun xs H Q=>∃ i j,xs=[.int i,.int j]/\Q (.int (if j > i then j else i)) H):=by
 intro pins s σ H xs us Q I r h;obtain ⟨i,j,rfl,q⟩:=h;obtain ⟨u,w',rfl,⟨t,rfl⟩,⟨t',rfl⟩⟩:=yi r;refine max_two_ints (I.ok.hd hc) fun h' tk k=>⟨_,H,I.kept k,?_,q⟩;by_cases hj:j > i
 . rw [if_pos hj,if_pos hj];exact ⟨_,rfl⟩
 . rw [if_neg hj,if_neg hj];exact ⟨_,rfl⟩
theorem sW (hc:X.calm=true):gN X (.builtin "min") (fun xs H Q=>∃ i j,xs=[.int i,.int j]/\Q (.int (if j<i then j else i)) H):=by
 intro pins s σ H xs us Q I r h;obtain ⟨i,j,rfl,q⟩:=h;obtain ⟨u,w',rfl,⟨t,rfl⟩,⟨t',rfl⟩⟩:=yi r;refine min_two_ints (I.ok.hd hc) fun h' tk k=>⟨_,H,I.kept k,?_,q⟩;by_cases hj:j<i
 . rw [if_pos hj,if_pos hj];exact ⟨_,rfl⟩
 . rw [if_neg hj,if_neg hj];exact ⟨_,rfl⟩
theorem sQ:gN X (.type "int") (fun xs H Q=>(∃ i,xs=[.int i]/\Q (.int i) H)\/∃ k,xs=[.bl k]/\Q (.int (if k then 1 else 0)) H):=by
 intro pins s σ H xs us Q I r h;rcases h with ⟨i,rfl,q⟩|⟨k,rfl,q⟩
 . obtain ⟨u,rfl,t,rfl⟩:=pk r;exact call_int_int ⟨.int i,H,I,⟨_,rfl⟩,q⟩
 . obtain ⟨u,rfl,r1⟩:=pk r;cases r1;exact call_int_bool ⟨.int (if k then 1 else 0),H,I.tok _,⟨_,rfl⟩,q⟩
end
end L2
namespace L2
open PySem PySem.Spec PyProof.Rows
structure ObjM (h:Heap) (x dx C:Addr) (mA:Str->Option Value):Prop where
 obj:h.get? x=some (PySem.W.instObj C dx)
 ns:h.Ns1 dx mA
 ne:dx≠x
theorem y8 {h:Heap} {dx:Addr} {mA:Str->Option Value} (n:h.Ns1 dx mA):∃ od,h.get? dx=some od/\∀ name,PySem.W.lookIn name od=some (mA name):=by
 obtain ⟨o,es,ep,ho,hd,hk,_,hm⟩:=n;refine ⟨o,ho,fun name=>?_⟩;have e:=hm name;unfold nsFind findBy at e;rw [<- Array.find?_toList] at e;unfold PySem.W.lookIn;rw [hd];dsimp only;split
 . rename_i y q
   rw [q] at e;exact congrArg some e
 . rename_i q
   rw [q] at e;have a:es.toList.any (·.refKey)=false:=by
     rw [List.any_eq_false];intro y hy;obtain ⟨z,t,hkey⟩:=hk y (Array.mem_toList_iff.mp hy);simp [DictEntry.refKey,hkey]
   have a':¬ es.toList.any (·.refKey)=true:=by rw [a];exact Bool.false_ne_true
   rw [if_neg a'];exact congrArg some e
theorem ObjM.look {h:Heap} {x dx C:Addr} {mA:Str->Option Value} (I:ObjM h x dx C mA):∃ od,PySem.W.InstAt h x (PySem.W.instObj C dx) C (some od)/\∀ name,PySem.W.lookIn name od=some (mA name) :=
 let ⟨od,ho,hl⟩:=y8 I.ns
 ⟨od,⟨I.obj,rfl,rfl,ho⟩,hl⟩
section
variable {prog:Program} {w:World} {A:Around} {E:Value->Shared->Prop} {s:Shared} {K:PySem.W.Frag} {x dx C f:Addr} {mA:Str->Option Value} {name:Str} {v:Value}
theorem CM {ns:List Str} {Q:Unit->Shared->Prop} (X:K.In s.heap) (I:ObjM s.heap x dx C mA)
   (hs:PySem.W.findIn K (.ref C) "__setattr__"=some (some (.builtin "object.__setattr__"))) (hp:PySem.W.plainOver K C=true) (ht:PySem.W.takerIn K C name=some none) (hh:PySem.W.hasDictIn K C=true)
   (hw:PySem.Within mA ns) (hsz:ns.length<=sizeLine)
   (h:∀ h',ObjM h' x dx C (fun y=>if y=name then some v else mA y)->Heap.SameBut dx s.heap h'->Q () { s with heap:=h',toks:=s.toks+2 }) :
   wpAny (model prog w) A (setAttr (.ref x) name v) Q E s:=by
 obtain ⟨od,J,hl⟩:=I.look;refine PySem.W.set_plain X J hs (PySem.W.osa_open (s:={ s with toks:=s.toks+1 }) (r:=none) X J hp ht fun b=>?_);obtain ⟨cd,hc,hd'⟩:=PySem.W.any_some hh;have hx:s.heap.get? x=some ⟨.ref C,some dx,.plain,#[]⟩:=I.obj;refine wpAny_bind (wpAny_pure (wpAny_bind (wpAny_bind (wpAny_loadPart hx (wpAny_bind (PySem.W.Looks.here (s:={ s with toks:=s.toks+1 }) (PySem.W.looks_clsIn X hc) ?_))))));rw [hd'];refine wpAny_pure (a:=some dx) (wpAny_bind (wpAny_pure (wpAny_bind ?_)));refine wpAny_nsSet1 (s:={ s with toks:=s.toks+1 }) I.ns fun h' hn2 hs2=>?_;obtain ⟨oD,esD,epD,hoD,hdD,hcD⟩:=hn2.count (PySem.Within.cons name v hw);refine wpAny_bind (wpAny_lookBehind hoD (by rw [hdD];exact pastItsLine_dict (Nat.le_trans hcD (by rw [List.length_cons];omega))) ?_);exact wpAny_pure (h _ ⟨(hs2.2 _ (Ne.symm I.ne)).trans I.obj,hn2,I.ne⟩ hs2)
theorem Bz {R:Result->Shared->Prop} {vs:List Value} {kw:List (Str × Value)} (X:K.In s.heap) (hm:PySem.W.makesIn K C=true)
   (hi:PySem.W.findIn K (.ref C) "__init__"=some (some (.ref f))) (hf:PySem.W.typeIn K (.ref f)=some (.type "function"))
   (h:codeAny (model prog w) (A.under (.builtin "type.__call__" ⟨.ref C::vs,kw⟩)) (.call (.ref f) ⟨.ref (s.heap.objs.size+1)::vs,kw⟩) (PySem.W.InitBack (s.heap.objs.size+1) R)
     { s with heap:=(s.heap.push PySem.W.emptyDict).push (PySem.W.instObj C s.heap.objs.size) }) :
   codeAny (model prog w) A (.call (.ref C) ⟨vs,kw⟩) R s:=by
 obtain ⟨hh,g,d,t,os⟩:=s;exact PySem.W.make_core (PySem.W.makes_of X hm) (PySem.W.looks_findIn X hi) (fun self=>PySem.W.bind_fn X self hf) (.inl rfl) h
end
def eY (f:Str) (v:V):List (Str × V)->List (Str × V)
 | []=>[(f,v)]
 | (g,x)::r=>if g=f then (g,v)::r else (g,x)::eY f v r
theorem fG (f g:Str) (v:V):∀ fs:List (Str × V),(eY f v fs).lookup g=if g=f then some v else fs.lookup g
 | []=>by
   show List.lookup g [(f,v)]=_;by_cases h:g=f
   . have hb:(g == f)=true:=beq_iff_eq.mpr h;simp only [List.lookup,hb,if_pos h]
   . have hb:(g == f)=false:=beq_eq_false_iff_ne.mpr h;simp only [List.lookup,hb,if_neg h]
 | (k,x)::r=>by
   have ih:=fG f g v r;rw [show eY f v ((k,x)::r)=(if k=f then (k,v)::r else (k,x)::eY f v r) from rfl];by_cases hk:k=f
   . rw [if_pos hk];by_cases h:g=k
     . have hb:(g == k)=true:=beq_iff_eq.mpr h;simp only [List.lookup,hb,if_pos (h.trans hk)]
     . have hb:(g == k)=false:=beq_eq_false_iff_ne.mpr h;simp only [List.lookup,hb,if_neg (fun e:g=f=>h (e.trans hk.symm))]
   . rw [if_neg hk];by_cases h:g=k
     . have hb:(g == k)=true:=beq_iff_eq.mpr h;simp only [List.lookup,hb,if_neg (fun e:g=f=>hk (h.symm.trans e))]
     . have hb:(g == k)=false:=beq_eq_false_iff_ne.mpr h;simp only [List.lookup,hb];exact ih
theorem oW (f:Str) (v:V):∀ fs:List (Str × V),f∈(eY f v fs).map (·.1)/\∀ g,g∈fs.map (·.1)->g∈(eY f v fs).map (·.1)
 | []=>⟨by simp [eY],fun g h=>by simp at h⟩
 | (k,x)::r=>by
   obtain ⟨i1,i2⟩:=oW f v r;rw [show eY f v ((k,x)::r)=(if k=f then (k,v)::r else (k,x)::eY f v r) from rfl];by_cases hk:k=f
   . rw [if_pos hk];subst hk;exact ⟨by simp,fun g h=>by simpa using h⟩
   . rw [if_neg hk];refine ⟨?_,fun g h=>?_⟩
     . rw [List.map_cons];exact List.mem_cons_of_mem _ i1
     . rw [List.map_cons] at h ⊢;rcases List.mem_cons.mp h with e|e
       . exact List.mem_cons.mpr (.inl e)
       . exact List.mem_cons_of_mem _ (i2 g e)
theorem pW (f:Str) (v:V):∀ fs:List (Str × V),(eY f v fs).length<=fs.length+1
 | []=>by simp [eY]
 | (k,x)::r=>by
   have ih:=pW f v r;rw [show eY f v ((k,x)::r)=(if k=f then (k,v)::r else (k,x)::eY f v r) from rfl];by_cases hk:k=f
   . rw [if_pos hk,List.length_cons,List.length_cons];omega
   . rw [if_neg hk,List.length_cons,List.length_cons];omega
section
variable {P:Program} {w:World} {H H':Hp} {h h':Heap} {a C dx:Addr} {fs fs':List (Str × V)}
theorem CO (hok:HOk P w H h) (e:H a=some (.ins C dx fs)):∃ mA,ObjM h a dx C mA/\(∀ f,RelO (fs.lookup f) (mA f))/\PySem.Within mA (fs.map (·.1))/\fs.length<=1000/\H dx=some (.own a):=by
 obtain ⟨d,z,ne,ob,mA,n,r,q⟩:=(show ObjOk P w H h a (.ins C dx fs) from hok a _ e);exact ⟨mA,⟨ob,n,ne⟩,r,q,z,d⟩
end
structure Cls (K:PySem.W.Frag) (C:Addr):Prop where
 pg:PySem.W.plainGet K C Str.empty=true
 hd:PySem.W.hasDictIn K C=true
 po:PySem.W.plainOver K C=true
 sa:PySem.W.findIn K (.ref C) "__setattr__"=some (some (.builtin "object.__setattr__"))
def NoAttr (K:PySem.W.Frag) (C:Addr) (f:Str):Prop:=PySem.W.findIn K (.ref C) f=some none
theorem NoAttr.taker {K:PySem.W.Frag} {C:Addr} {f:Str} (n:NoAttr K C f):PySem.W.takerIn K C f=some none:=by
 unfold PySem.W.takerIn;rw [show PySem.W.findIn K (.ref C) f=some none from n]
 rfl
section
variable {X:Cx} {pins:List (Addr × Obj)} {σ:St} {H:Hp} {s:Shared} {a C dx:Addr} {fs:List (Str × V)} {f:Str} {v:V} {A:Around} {E:Value->Shared->Prop}
theorem xN {y:V} {u:Value} {Q:Unit->Shared->Prop} (I:Inv X pins σ H s) (e:H a=some (.ins C dx fs)) (c:Cls X.K C) (n:NoAttr X.K C f) (hl:fs.length<1000) (ry:RelV y u)
   (h:∀ s',Inv X pins σ (upd H a (.ins C dx (eY f y fs))) s'->Q () s'):wpAny (model X.prog X.w) A (setAttr (.ref a) f u) Q E s:=by
 obtain ⟨mA,O,r,wi,_,ho⟩:=CO I.hok e;have hz:(fs.map (·.1)).length<=sizeLine:=by rw [List.length_map,sizeLine_eq];omega
 refine CM I.kIn O c.sa c.po n.taker c.hd wi hz fun h' O' sb=>h _ ?_;have hd:∃ o,h'.get? dx=some o:=let ⟨o,_,_,e',_⟩:=O'.ns;⟨o,e'⟩;refine I.write (x:=a) (e:=dx) (by rw [e];exact True.intro) (.inr ho) (fun b q hb z=>(sb.2 b hb).trans z) hd ?_;refine ⟨by rw [ao O.ne];exact ho,?_,O.ne,O'.obj,_,O'.ns,fun g=>?_,fun g hg=>?_⟩
 . have:=pW f y fs;omega
 . show RelO ((eY f y fs).lookup g) (if g=f then some u else mA g);rw [fG];by_cases q:g=f
   . rw [if_pos q,if_pos q];exact ry
   . rw [if_neg q,if_neg q];exact r g
 . by_cases q:g=f
   . rw [q];exact (oW f y fs).1
   . refine (oW f y fs).2 g (wi g fun z=>hg ?_);show (if g=f then some u else mA g)=none;rw [if_neg q];exact z
theorem Inv.made (I:Inv X pins σ H s):Inv X pins σ (upd (upd H s.heap.objs.size (.own (s.heap.objs.size+1))) (s.heap.objs.size+1) (.ins C s.heap.objs.size []))
   { s with heap:=(s.heap.push PySem.W.emptyDict).push (PySem.W.instObj C s.heap.objs.size) }:=by
 have e1:(s.heap.push PySem.W.emptyDict).get? s.heap.objs.size=some PySem.W.emptyDict:=Heap.get?_push_size s.heap rfl;have e2:((s.heap.push PySem.W.emptyDict).push (PySem.W.instObj C s.heap.objs.size)).get? (s.heap.objs.size+1)=some (PySem.W.instObj C s.heap.objs.size):=by
   have:=Heap.get?_push_size (s.heap.push PySem.W.emptyDict) (o:=PySem.W.instObj C s.heap.objs.size) rfl
   rwa [Heap.size_push] at this
 have e3:(s.heap.push PySem.W.emptyDict).Ns s.heap.objs.size (fun _=>none):=⟨PySem.W.emptyDict,#[],_,e1,rfl,(fun e he=>absurd he (by simp)),fun _=>rfl⟩;have I1:=I.laid (a:=s.heap.objs.size) (o:=.own (s.heap.objs.size+1)) (h':=s.heap.push PySem.W.emptyDict) (t':=s.toks) (fun b u q=>Heap.get?_push_of_some _ q) (Nat.le_refl _) ⟨_,e1⟩;refine I1.laid (a:=s.heap.objs.size+1) (o:=.ins C s.heap.objs.size []) (t':=s.toks) (fun b u q=>Heap.get?_push_of_some _ q) (Nat.le_of_eq (Heap.size_push _ _)) ?_;have ne:s.heap.objs.size≠s.heap.objs.size+1:=Nat.ne_of_lt (Nat.lt_succ_self _);refine ⟨by rw [ao ne,ag],Nat.zero_le _,ne,e2,fun _=>none,(Heap.Ns1.of_empty e3).at fun o q=>Heap.get?_push_of_some _ q,fun _=>True.intro,fun y hy=>absurd rfl hy⟩
end
def DU (K:PySem.W.Frag) (ta:TE) (f:Str):TE:=fun σ H Q=>ta σ H fun x H1=>∃ a C dx fs v,x=.ref a/\H1 a=some (.ins C dx fs)/\Cls K C/\NoAttr K C f/\fs.lookup f=some v/\Q v H1
def A9 (K:PySem.W.Frag) (ta tv:TE) (f:Str):TS:=fun D σ H=>tv σ H fun y H1=>ta σ H1 fun x H2=>∃ a C dx fs,x=.ref a/\H2 a=some (.ins C dx fs)/\Cls K C/\NoAttr K C f/\fs.length<1000 /\
 D.nx σ (upd H2 a (.ins C dx (eY f y fs)))
section
variable {X:Cx} {o e value:Expr} {f:Str} {pos pos' tpos:Pos} {ta tv:TE}
theorem yP (ha:PE X o ta) (hv:PE X value tv) (hs:swapsWith value (some (.Attribute o f pos')) pos.line X.env=pure false):PS X (.Assign [.Attribute o f pos'] value pos) (A9 X.K ta tv f):=by
 intro pins s σ H D I h;refine plainObj_wpAny_Assign_Attribute (bd (hv pins s σ H _ I h) fun u s1 y H1 I1 ry q=>bd (ha pins s1 σ H1 _ I1 q) fun ov s2 x H2 I2 rx ⟨a,C,dx,fs,ex,ea,c,n,l,q2⟩=>?_) hs;subst ex;obtain rfl:ov=Value.ref a:=rx;exact xN I2 ea c n l ry fun s3 I3=>⟨σ,_,I3,q2⟩
end
section
variable {X:Cx} {pins:List (Addr × Obj)} {σ:St} {H:Hp} {s:Shared} {A:Around} {E:Value->Shared->Prop} {Q:Value->Shared->Prop} {c:Value} {b:Bool}
end
end L2
namespace L2
open PySem PySem.Spec PyProof.Rows
structure Room (k:Nat) (A:Around):Prop where
 hd:A.handled=none
 dp:A.depth+3*k+5<recursionLimit
 un:A.units+16*k+200<cLine
theorem Room.mono {j k:Nat} {A:Around} (r:Room k A) (h:j<=k):Room j A:=⟨r.hd,by have:=r.dp;omega,by have:=r.un;omega⟩
theorem Room.deeper {k:Nat} {A:Around} (r:Room (k+1) A) (env:Env):Room k (A.deeper env) :=
 ⟨r.hd,by have:=r.dp;show A.depth+1+3*k+5<_;omega,by have:=r.un;show A.units+3+16*k+200<_;omega⟩
theorem xG {A:Around} {C:Addr} {us:List Value} {kw:List (Str × Value)}:(A.under (.builtin "type.__call__" ⟨.ref C::us,kw⟩)).depth=A.depth+1:=by
 first|rfl|simp [Around.under,Code.weight,Code.isCreation,Code.isGuard,Code.isCaller,Code.frames,Code.isFrame,guardIds]
theorem xE {A:Around} {C:Addr} {us:List Value} {kw:List (Str × Value)}:(A.under (.builtin "type.__call__" ⟨.ref C::us,kw⟩)).units=A.units+1:=by
 first|rfl|simp [Around.under,Code.cUnits,Code.frames,Code.isFrame]
theorem Room.make {k:Nat} {A:Around} (r:Room (k+1) A) (C:Addr) (us:List Value) (kw:List (Str × Value)):Room k (A.under (.builtin "type.__call__" ⟨.ref C::us,kw⟩)) :=
 ⟨r.hd,by have:=r.dp;rw [xG];omega,by have:=r.un;rw [xE];omega⟩
theorem Room.depth {k:Nat} {A:Around} (r:Room k A):A.depth<recursionLimit:=by have:=r.dp;omega
theorem Room.units {k:Nat} {A:Around} (r:Room k A):A.units+64<cLine:=by have:=r.un;omega
def tNil:TA:=fun _ H Q=>Q [] H
def xP (ta:TE) (tr:TA):TA:=fun σ H Q=>ta σ H fun x H1=>tr σ H1 fun xs H2=>Q (x::xs) H2
section
variable {X:Cx} {e:Expr} {es:List Expr} {te:TE} {t:TA} {pos:Pos}
theorem aj:PA X [] tNil:=fun _ _ _ _ H Q I h=>Calls.spliced_nil ⟨[],H,I,.nil,h⟩
theorem aa (ha:PE X e te) (hr:PA X es t) (hs:starEach (e::es) X.env=(false,eval e X.env)::starEach es X.env:=by rfl):PA X (e::es) (xP te t):=by
 intro pos pins s σ H Q I h;rw [hs];show wpAny _ _ (spliced ((false,eval e X.env)::backTo pos (starEach es X.env))) _ _ s;refine Calls.spliced_cons (bd (ha pins s σ H _ I h) fun u s1 x H1 I1 r1 q1=>?_);exact mZ (hr pos pins s1 σ H1 _ I1 q1) fun us s2 xs H2 I2 r2 q2=>⟨x::xs,H2,I2,.cons r1 r2,q2⟩
def Bk (t:TA):TE:=fun σ H Q=>t σ H fun xs H1=>xs.length<=sizeLine/\∀ p,H1 p=none->Q (.ref p) (upd H1 p (.tup xs))
def A8 (t:TA):TE:=fun σ H Q=>t σ H fun xs H1=>xs.length<=sizeLine/\∀ p,H1 p=none->Q (.ref p) (upd H1 p (.lst xs))
theorem ck {x1} (h:PA X es t):PE X (.Tuple es x1 pos) (Bk t):=by
 intro pins s σ H Q I hq;refine wpAny_Tuple_spliced (mZ (h pos pins s σ H _ I hq) fun us s1 xs H1 I1 r ⟨z,q⟩=>⟨by rw [<- r.length];exact z,?_⟩);have hf:H1 s1.heap.objs.size=none:=I1.hok.fresh (Nat.le_refl _);refine ⟨.ref s1.heap.objs.size,upd H1 s1.heap.objs.size (.tup xs),I1.laid (t':=s1.toks) (fun b u e=>Heap.get?_push_of_some _ e) (Nat.le_refl _) ?_,rfl,q _ hf⟩;exact ⟨z,us,r,⟨_,Heap.get?_push_size _ rfl,rfl,_,rfl⟩⟩
theorem a9 (h:PA X es t):PE X (.List es pos) (A8 t):=by
 intro pins s σ H Q I hq;refine wpAny_List_spliced (mZ (h pos pins s σ H _ I hq) fun us s1 xs H1 I1 r ⟨z,q⟩=>⟨by rw [<- r.length];exact z,?_⟩);have hf:H1 s1.heap.objs.size=none:=I1.hok.fresh (Nat.le_refl _);refine ⟨.ref s1.heap.objs.size,upd H1 s1.heap.objs.size (.lst xs),I1.laid (t':=s1.toks) (fun b u e=>Heap.get?_push_of_some _ e) (Nat.le_refl _) ?_,rfl,q _ hf⟩;exact ⟨z,us,0,r,Heap.get?_push_size _ rfl⟩
end
abbrev Sp:=List V->Hp->VK->XK->Prop
abbrev CXT:=List Env->Hp->Shared->XK->Value->Shared->Prop
structure Env0 (P:Program) (w:World) (K:PySem.W.Frag) (mg:Str->Option Value) (base:Heap) (A:Around) (outer:List Env) (s:Shared) (H:Hp):Prop where
 frames:A.frames=some outer
 mod:Mod K mg base
 bs:∀ b o,base.get? b=some o->s.heap.get? b=some o/\H b=none
 bsz:base.objs.size<=s.heap.objs.size
 funs:s.heap.FunFrames base outer
 frf:∀ b∈frs outer,H b=none
 hok:HOk P w H s.heap
 bare:AllBare s.gens
def CE (outer:List Env) (P:Program) (w:World) (H:Hp) (s:Shared) (Q:VK) (u:Value) (s':Shared):Prop :=
 ∃ v H',s'.os=s.os/\AllBare s'.gens/\Un (frs outer) [] H H' s.heap s'.heap/\HOk P w H' s'.heap/\RelV v u/\Q v H'
def CR (CX:CXT) (outer:List Env) (P:Program) (w:World) (H:Hp) (s:Shared) (Q:VK) (E:XK) (r:Result) (s':Shared):Prop :=
 match r with
 | .ok (.ret u)=>CE outer P w H s Q u s'
 | .ok _=>False
 | .error e=>CX outer H s E e s'
structure FnOk (P:Program) (w:World) (K:PySem.W.Frag) (mg:Str->Option Value) (base:Heap) (CX:CXT) (k:Nat) (f:Addr) (fd:FuncData) (ps:List Str) (sp:Sp):Prop where
 len:∀ vs H Q E,sp vs H Q E->vs.length=ps.length
 run:∀ (A:Around) (outer:List Env) (s:Shared) (H:Hp) (args:Args) (us:List Value) (vs:List V) (Q:VK) (E:XK),Room k A->Env0 P w K mg base A outer s H->BindsTo s fd args (ps.zip us)->Vals vs us->sp vs H Q E ->
   codeAny (model P w) A (.call (.ref f) args) (CR CX outer P w H s Q E) s
theorem Env0.make {P:Program} {w:World} {K:PySem.W.Frag} {mg:Str->Option Value} {base:Heap} {A:Around} {outer:List Env} {s:Shared} {H:Hp} (e:Env0 P w K mg base A outer s H) (C:Addr) (us:List Value) (kw:List (Str × Value)) :
   Env0 P w K mg base (A.under (.builtin "type.__call__" ⟨.ref C::us,kw⟩)) outer s H:=⟨by first|exact e.frames|(simpa [Around.under,Code.envs,Code.isFrame,pushEnvs] using e.frames),e.mod,e.bs,e.bsz,e.funs,e.frf,e.hok,e.bare⟩
section
variable {X:Cx} {pins:List (Addr × Obj)} {σ:St} {H:Hp} {s s':Shared}
theorem Inv.env0 (I:Inv X pins σ H s):Env0 X.prog X.w X.K X.mg X.base X.A X.stack s H :=
 ⟨I.ok.frames,I.ok.mod,I.bs,Nat.le_trans I.ok.bsz I.sz,I.stack,I.stkFree,I.hok,I.bare⟩
theorem Inv.after {Q:VK} {u:Value} (I:Inv X pins σ H s) (h:CE X.stack X.prog X.w H s Q u s'):EP X pins σ Q u s':=by
 obtain ⟨v,H',os,bare,un,hok,r,q⟩:=h;obtain ⟨hh,g,d,t,os'⟩:=s';obtain rfl:os'=s.os:=os;exact ⟨v,H',I.call (h':=hh) (g':=g) (d':=d) (t':=t) (ch:=[]) un hok bare (fun b z=>absurd z (by simp)),r,q⟩
end
def ue (sp:Sp) (dvs:List V) (E:XK) (t:TA):TE:=fun σ H Q=>t σ H fun vs H1=>sp (vs++dvs) H1 Q E
def xJ (C:Addr) (sp:Sp) (dvs:List V) (E:XK) (t:TA):TE:=fun σ H Q=>t σ H fun vs H1=>∀ x dx,H1 x=none->H1 dx=none->dx≠x ->
 sp (.ref x::(vs++dvs)) (upd (upd H1 dx (.own x)) x (.ins C dx [])) (fun v H2=>v=.non/\Q (.ref x) H2) E
def Binds (K:PySem.W.Frag) (fd:FuncData) (ps:List Str) (ds:List Value):Prop :=
 ∀ (s:Shared) (us:List Value),K.In s.heap->(us++ds).length=ps.length->BindsTo s fd ⟨us,[]⟩ (ps.zip (us++ds))
theorem Binds.all {K:PySem.W.Frag} {fd:FuncData} {ps:List Str} (h:∀ us:List Value,us.length=ps.length->bindArgs fd ⟨us,[]⟩=pure (ps.zip us)):Binds K fd ps []:=fun s us _ hl=>by
 rw [List.append_nil] at hl ⊢;exact .of_eq (h us hl)
def rK (CX:CXT) (X:Cx) (E:XK):Prop:=∀ (pins:List (Addr × Obj)) (σ:St) (H:Hp) (s:Shared) (e:Value) (s':Shared),Inv X pins σ H s->CX X.stack H s E e s'->X.xe e s'
section
variable {X:Cx} {CX:CXT} {k:Nat} {f C:Addr} {fd:FuncData} {ps:List Str} {sp:Sp} {dvs:List V} {ds:List Value} {E:XK} {x m:Str} {p pos apos:Pos} {e o:Expr} {es:List Expr} {ta:TE} {t:TA}
theorem C5 {pins:List (Addr × Obj)} {σ:St} {H:Hp} {s:Shared} {Q:VK} {us:List Value} {vs:List V} (F:FnOk X.prog X.w X.K X.mg X.base CX k f fd ps sp) (hr:Room k X.A) (hb:Binds X.K fd ps ds) (hd:Vals dvs ds) (hx:rK CX X E)
   (I:Inv X pins σ H s) (r:Vals vs us) (h:sp (vs++dvs) H Q E):wpAny (model X.prog X.w) X.A (call (.ref f) us) (EP X pins σ Q) X.xe s:=by
 have r2:Vals (vs++dvs) (us++ds):=r.append hd;have hl:(us++ds).length=ps.length:=by rw [<- r2.length];exact F.len _ _ _ _ h
 refine wpAny_call (codeAny_mono (F.run X.A X.stack s H ⟨us,[]⟩ (us++ds) (vs++dvs) Q E hr I.env0 (hb s us I.kIn hl) r2 h) fun r s' hq=>?_);cases r with
 | error e=>exact hx pins σ H s e s' I hq
 | ok fl =>
   cases fl with
   | ret u=>exact I.after hq
   | next=>exact False.elim hq
   | brk=>exact False.elim hq
   | cont=>exact False.elim hq
theorem au (F:FnOk X.prog X.w X.K X.mg X.base CX k f fd ps sp) (hr:Room k X.A) (hg:Gl X x) (hm:X.mg x=some (.ref f)) (hk:PySem.W.keepIn X.K (.ref f)=true) (hb:Binds X.K fd ps ds) (hd:Vals dvs ds) (hx:rK CX X E)
   (ha:PA X (e::es) t) (hdb:(x == ("__debug__":Str))=false:=by decide) (he:starEach (e::es) X.env=(false,eval e X.env)::starEach es X.env:=by rfl) (hpl:(backTo pos (starEach es X.env)).any (·.1)=false:=by rfl) :
   PE X (.Call (.Name x p) (e::es) [] pos) (ue sp dvs E t):=by
 intro pins s σ H Q I h;refine wpAny_Call_Name_kw (iP I hg hm ?_ hdb);refine PySem.W.callWith_K (h₀:=X.base) I.ok.mod.kin hk (mZ (ha pos pins s σ H _ I h) fun us s1 vs H1 I1 r q=>⟨I1.kIn,?_⟩) he hpl;exact C5 F hr hb hd hx I1 r q
structure Mk (K:PySem.W.Frag) (C f:Addr):Prop where
 makes:PySem.W.makesIn K C=true
 init:PySem.W.findIn K (.ref C) "__init__"=some (some (.ref f))
 fn:PySem.W.isFn K (.ref f)=true
 kp:PySem.W.keepIn K (.ref C)=true
end
section
variable {X:Cx} {CX:CXT} {k:Nat} {f C:Addr} {fd:FuncData} {ps ks:List Str} {sp:Sp} {E:XK} {x m:Str} {p pos apos kpos:Pos} {e o:Expr} {es:List Expr} {kws:List Keyword} {te ta:TE} {t tk:TA} {nm:Option Str}
variable {g:List Value->List Value->List Value} {gV:List V->List V->List V}
end
structure FnScope (N P:List Str) (sc:Scope):Prop where
 kind:sc.kind=.function
 co:sc.isCoroutine=false
 gen:sc.isGenerator=false
 nd:N.Nodup
 pre:N.take P.length=P
 par:∀ x∈P,sc.names.lookup x=some .local\/sc.names.lookup x=some .cell
 nofree:∀ y∈sc.names,y.2≠.free
theorem tq {kindOf:Str->Option NameKind} {x:Str}:∀ {binds:List (Str × Value)} {m:Str->Option Value},(∀ v,(x,v) ∉ binds)->bindL kindOf binds m x=m x
 | [],_,_=>rfl
 | (n,v)::r,m,h=>by
   unfold bindL;rw [tq fun w hw=>h w (List.mem_cons_of_mem _ hw)];split
   . have:x≠n:=(by rintro rfl;exact h v List.mem_cons_self);simp [this]
   . rfl
theorem tm {kindOf:Str->Option NameKind} {x:Str}:∀ {binds:List (Str × Value)} {m:Str->Option Value},(∀ v,(x,v) ∉ binds)->bindC kindOf binds m x=m x
 | [],_,_=>rfl
 | (n,v)::r,m,h=>by
   unfold bindC;rw [tm fun w hw=>h w (List.mem_cons_of_mem _ hw)];split
   . rfl
   . have:x≠n:=(by rintro rfl;exact h v List.mem_cons_self);simp [this]
theorem sP {kindOf:Str->Option NameKind} {x:Str} {v:Value}:∀ {P:List Str} {vs:List Value} {i:Nat} {m:Str->Option Value},P.Nodup->P[i]?=some x->vs[i]?=some v->kindOf x=some .local ->
   bindL kindOf (P.zip vs) m x=some v
 | [],_,_,_,_,h,_,_=>by simp at h
 | _::_,[],_,_,_,_,h,_=>by simp at h
 | p::P,w::vs,0,m,nd,h1,h2,hk=>by
   simp at h1 h2;subst h1;subst h2;show bindL kindOf ((p,w)::P.zip vs) m p=_;unfold bindL;rw [tq fun v hv=>(List.nodup_cons.mp nd).1 (List.of_mem_zip hv).1,if_pos hk];simp
 | p::P,w::vs,i+1,m,nd,h1,h2,hk=>by
   show bindL kindOf ((p,w)::P.zip vs) m x=_;unfold bindL;exact sP (i:=i) (List.nodup_cons.mp nd).2 (by simpa using h1) (by simpa using h2) hk
theorem tw {kindOf:Str->Option NameKind} {x:Str} {v:Value}:∀ {P:List Str} {vs:List Value} {i:Nat} {m:Str->Option Value},P.Nodup->P[i]?=some x->vs[i]?=some v->kindOf x≠some .local ->
   bindC kindOf (P.zip vs) m x=some v
 | [],_,_,_,_,h,_,_=>by simp at h
 | _::_,[],_,_,_,_,h,_=>by simp at h
 | p::P,w::vs,0,m,nd,h1,h2,hk=>by
   simp at h1 h2;subst h1;subst h2;show bindC kindOf ((p,w)::P.zip vs) m p=_;unfold bindC;rw [tm fun v hv=>(List.nodup_cons.mp nd).1 (List.of_mem_zip hv).1,if_neg hk];simp
 | p::P,w::vs,i+1,m,nd,h1,h2,hk=>by
   show bindC kindOf ((p,w)::P.zip vs) m x=_;unfold bindC;exact tw (i:=i) (List.nodup_cons.mp nd).2 (by simpa using h1) (by simpa using h2) hk
def start (N:List Str) (vs:List V):St:=vs.map some++List.replicate (N.length - vs.length) none
def g5 (CX:CXT) (P:Program) (w:World) (K:PySem.W.Frag) (mg:Str->Option Value) (base:Heap) (N:List Str) (qual:Str) (scope:Scope) (f:Addr) (cd:Value) (A:Around) (outer:List Env) (s:Shared) (H:Hp) (E:XK):Cx where
 prog:=P
 w:=w
 K:=K
 mg:=mg
 base:=base
 A:=A.deeper (envOfC qual scope s.heap.objs.size f cd)
 N:=N
 s₀:=s
 H₀:=H
 env:=envOfC qual scope s.heap.objs.size f cd
 outer:=outer
 stack:=envOfC qual scope s.heap.objs.size f cd::outer
 ex:=[]
 calm:=true
 fn:=fun _=>true
 pn:=[]
 xe:=fun e s'=>wpAny (model P w) (A.deeper (envOfC qual scope s.heap.objs.size f cd)) (leaving (envOfC qual scope s.heap.objs.size f cd) e) (fun _ s''=>CX outer H s E e s'') (fun e' s''=>CX outer H s E e' s'') s'
theorem uB {sc:Scope} {n:Nat} {x:Str} (h:sc.names.lookup x=some .cell):∃ c,(cellsFrom n sc.names []).lookup x=some c:=by
 have q:=PySem.W.cellsFrom_some sc.names n [] (.inl h);exact Option.isSome_iff_exists.mp q
theorem tf {CX:CXT} {P:Program} {w:World} {K:PySem.W.Frag} {mg:Str->Option Value} {base:Heap} {N ps:List Str} {qual:Str} {scope:Scope} {f:Addr} {cd:Value} {A:Around} {outer:List Env} {s s1:Shared} {H:Hp} {E:XK} {us:List Value} {vs:List V}
   (S:FnScope N ps scope) (hd:A.handled=none) (e0:Env0 P w K mg base A outer s H) (hl:vs.length=ps.length) (r:Vals vs us)
   (x:InCallC s s.heap.objs.size (bindL (envOfC qual scope s.heap.objs.size f cd).kindOf (ps.zip us) fun _=>none) (cellsFrom (s.heap.objs.size+1) scope.names []) (bindC (envOfC qual scope s.heap.objs.size f cd).kindOf (ps.zip us) fun _=>none) s1) :
   Inv (g5 CX P w K mg base N qual scope f cd A outer s H E) [] (start N vs) H s1:=by
 have hpl:ps.length<=N.length:=by have:=congrArg List.length S.pre;rw [List.length_take] at this;omega
 obtain ⟨h1,tk,rfl,hk⟩:=x.done;have noA:∀ b:Addr,b ∉ (g5 CX P w K mg base N qual scope f cd A outer s H E).ex:=fun b z=>absurd (show b∈([]:List Addr) from z) (by simp);refine ⟨⟨e0.mod,S.kind,rfl,rfl,Nat.le_refl _,fun y z c h1 h2=>?_,fun y hy=>?_,fun y c _ h=>?_,fun _=>hd,Around.frames_deeper e0.frames,.inr ⟨rfl,rfl⟩,fun b z=>absurd z (noA b),e0.bs,e0.bsz,fun b _ _=>noA b,fun b z=>absurd z (noA b),e0.funs,e0.frf⟩,
   rfl,e0.bare,Un.kept hk,⟨_,x.toInCall.ns,fun i y v h1 h2 h3=>?_⟩,fun y c h=>⟨_,x.cell y c h⟩,e0.hok.fresh (Nat.le_refl _),fun y c h=>?_,fun p hp=>absurd (show p∈([]:List (Addr × Obj)) from hp) (by simp),e0.hok.kept hk,?_⟩
 . exact name_of_addr x.apart (PySem.mem_of_lookup h1) (PySem.mem_of_lookup h2)
 . have hy:scope.names.lookup y=some .cell\/scope.names.lookup y=some .free:=hy;rcases hy with hy|hy
   . exact uB hy
   . exact absurd rfl (S.nofree _ (PySem.mem_of_lookup hy))
 . exact Nat.le_of_lt (x.above y c (PySem.mem_of_lookup h))
 . have hi:i<vs.length:=by
     unfold start at h2;by_cases hi:i<vs.length
     . exact hi
     . rw [List.getElem?_append_right (by simpa using hi)] at h2;rw [List.getElem?_replicate] at h2;split at h2 <;> cases h2
   have ha:vs[i]?=some v:=by
     unfold start at h2;rw [List.getElem?_append_left (by simpa using hi),List.getElem?_map] at h2;cases e:vs[i]? with
     | none=>rw [e] at h2;cases h2
     | some a=>rw [e] at h2;cases h2;rfl
   obtain ⟨u,hu,rv⟩:=r.get ha;have hp:ps[i]?=some y:=by
     rw [<- S.pre,List.getElem?_take_of_lt (by omega)];exact h1
   have ndP:ps.Nodup:=by rw [<- S.pre];exact S.nd.sublist (List.take_sublist _ _)
   refine ⟨u,rv,?_⟩;rcases S.par y (List.mem_of_getElem? hp) with k|k
   . exact .inl ⟨k,sP ndP hp hu k⟩
   . obtain ⟨c,e⟩:=uB (n:=s.heap.objs.size+1) k;refine .inr ⟨.inl k,c,e,?_⟩;have q:=x.cell y c e;rw [tw ndP hp hu (by show scope.names.lookup y≠_;rw [k];decide)] at q;exact q
 . exact e0.hok.fresh (Nat.le_of_lt (x.above y c (PySem.mem_of_lookup h)))
 . unfold start;show _=N.length;rw [List.length_append,List.length_map,List.length_replicate];omega
theorem Cg {CX:CXT} {P:Program} {w:World} {K:PySem.W.Frag} {mg:Str->Option Value} {base:Heap} {k:Nat} {f:Addr} {name qual:Str} {params:Arguments} {body:List Stmt} {scope:Scope} {dV kV doc pm cdv ct oc:Value} {an od:Option Addr}
   {osl:Array (Option Value)} {N ps:List Str} {sp:Sp} (lk:K.lookup f=some ⟨oc,od,.func (PySem.W.fnOf name qual params body scope dV kV doc pm an cdv ct),osl⟩) (hcd:PySem.W.codeIn K cdv qual=true) (S:FnScope N ps scope)
   (len:∀ vs H Q E,sp vs H Q E->vs.length=ps.length)
   (hbody:∀ (A:Around) (outer:List Env) (s:Shared) (H:Hp) (vs:List V) (Q:VK) (E:XK),Room k (A.deeper (envOfC qual scope s.heap.objs.size f cdv))->sp vs H Q E ->
     ∃ t,PSs (g5 CX P w K mg base N qual scope f cdv A outer s H E) body t/\t { nx:=fun _ H'=>Q .non H',rt:=Q } (start N vs) H) :
   FnOk P w K mg base CX (k+1) f (PySem.W.fnOf name qual params body scope dV kV doc pm an cdv ct) ps sp:=by
 refine ⟨len,fun A outer s H args us vs Q E hr e0 hb r hsp=>?_⟩;have hl:=len _ _ _ _ hsp;have KX:K.In s.heap:=e0.mod.kin.keeps fun b o e=>(e0.bs b o e).1;have lim:s.heap.NoLimit:=e0.mod.nolimit.keeps fun b o e=>(e0.bs b o e).1;have hkind:∀ y∈ps.zip us,scope.names.lookup y.1=some .local\/(scope.names.lookup y.1=some .cell/\((cellsFrom (s.heap.objs.size+1) scope.names []).lookup y.1).isSome=true):=fun ⟨n,v⟩ hy=>by
   rcases S.par n (List.of_mem_zip hy).1 with q|q
   . exact .inl q
   . exact .inr ⟨q,PySem.W.cellsFrom_some _ _ _ (.inl q)⟩
 refine codeAny_call_function hr.depth (KX _ _ lk) rfl S.co S.gen rfl (PySem.W.codeRec_of KX hcd) (hb _ _ _ _ ?_);refine wpAny_newFunctionEnv_cells S.kind hkind fun env he s1 x=>?_;subst he;refine ⟨lim.keeps x.toInCall.keep,codeAny_func ?_⟩;obtain ⟨t,ht,hq⟩:=hbody A outer s H vs Q E (hr.deeper _) hsp;have I:Inv (g5 CX P w K mg base N qual scope f cdv A outer s H E) [] (start N vs) H s1:=tf S hr.hd e0 hl r x;refine wpAny_mono (ht [] s1 (start N vs) H _ I hq) (fun fl s' hs=>?_) fun e s' hs=>hs;have fin:∀ {σ':St} {H':Hp} {v:V} {u:Value},Inv (g5 CX P w K mg base N qual scope f cdv A outer s H E) [] σ' H' s'->RelV v u->Q v H'->CE outer P w H s Q u s' :=
   fun {σ' H' v u} J rv q=>⟨v,H',J.os,J.bare,J.base,J.hok,rv,q⟩
 cases fl with
 | ret u =>
   obtain ⟨v,σ',H',J,rv,q⟩:=hs;exact fin J rv q
 | next =>
   obtain ⟨σ',H',J,q⟩:=hs;exact fin (v:=V.non) (u:=Value.none) J rfl q
 | brk =>
   obtain ⟨_,_,_,q⟩:=hs;exact False.elim q
 | cont =>
   obtain ⟨_,_,_,q⟩:=hs;exact False.elim q
end L2
namespace L2
open PySem PySem.Spec PyProof.Rows
section
variable {X:Cx} {x:Str} {p pos:Pos} {e:Expr} {es:List Expr} {t:TA} {id T:String} {r:List V->Hp->VK->Prop}
def tCB (r:List V->Hp->VK->Prop) (t:TA):TE:=fun σ H Q=>t σ H fun vs H1=>r vs H1 Q
theorem aI (hc:gN X (.builtin id) r) (hg:Gl X x) (hm:X.mg x=none) (hv:bootBuiltins x=some (.builtin id)) (ha:PA X (e::es) t) (hn:x≠"__name__":=by decide) (hdb:(x == ("__debug__":Str))=false:=by decide)
   (he:starEach (e::es) X.env=(false,eval e X.env)::starEach es X.env:=by rfl) (hpl:(backTo pos (starEach es X.env)).any (·.1)=false:=by rfl):PE X (.Call (.Name x p) (e::es) [] pos) (tCB r t):=by
 intro pins s σ H Q I h;refine wpAny_Call_Name_kw (kO I hg hm hv ?_ hn hdb);exact PyProof.Rows.callWith_builtin1 (mZ (ha pos pins s σ H _ I h) fun us s1 vs H1 I1 r1 q1=>hc pins s1 σ H1 vs us Q I1 r1 q1) he hpl
theorem gf (hc:gN X (.type T) r) (hg:Gl X x) (hm:X.mg x=none) (hv:bootBuiltins x=some (.type T)) (ha:PA X (e::es) t) (hn:x≠"__name__":=by decide) (hdb:(x == ("__debug__":Str))=false:=by decide)
   (he:starEach (e::es) X.env=(false,eval e X.env)::starEach es X.env:=by rfl) (hpl:(backTo pos (starEach es X.env)).any (·.1)=false:=by rfl):PE X (.Call (.Name x p) (e::es) [] pos) (tCB r t):=by
 intro pins s σ H Q I h;refine wpAny_Call_Name_kw (kO I hg hm hv ?_ hn hdb);exact PyProof.Rows.callWith_type1 (mZ (ha pos pins s σ H _ I h) fun us s1 vs H1 I1 r1 q1=>hc pins s1 σ H1 vs us Q I1 r1 q1) he hpl
end
end L2
namespace HT
open PySem PyProof.Rows
section
open PySem.SeqAt
open PySem.AutoSeq1 (wpAny_loadPart')
open PySem.MeetsSeq PySem.MeetsSeq2 PySem.MeetsSeq3
end
section
variable {prog:Program} {w:World} {A:Around} {E:Value->Shared->Prop} {s:Shared}
def sIx (n d:Nat):Option Int->Nat
 | none=>d
 | some v=>if v<0 then (v+(n:Int)).toNat else min v.toNat n
end
end HT
namespace L2
open PySem PySem.Spec PyProof.Rows
abbrev TO:=St->Hp->(Option Int->Hp->Prop)->Prop
def PO (X:Cx) (e:Option Expr) (t:TO):Prop :=
 ∀ (pins:List (Addr × Obj)) (s:Shared) (σ:St) (H:Hp) (Q:Option Int->Hp->Prop),Inv X pins σ H s->t σ H Q ->
   wpAny (model X.prog X.w) X.A (evalPart e X.env) (fun u s'=>∃ o H',Inv X pins σ H' s'/\IsPart u o/\Q o H') X.xe s
def tNoPart:TO:=fun _ H Q=>Q none H
def qL (t:TE):TO:=fun σ H Q=>t σ H fun x H1=>∃ i,x=.int i/\Q (some i) H1
section
variable {X:Cx} {e:Expr} {te:TE} {lo hi:Option Expr} {tl th:TO} {pos p2:Pos}
theorem f9:PO X none tNoPart:=by
 intro pins s σ H Q I h;rw [evalPart_none];exact wpAny_pure ⟨none,H,I,.none,h⟩
theorem f8 (h:PE X e te):PO X (some e) (qL te):=by
 intro pins s σ H Q I hw;rw [evalPart_some];refine bd (h pins s σ H _ I hw) fun u s1 x H1 I1 r1 q1=>?_;obtain ⟨i,rfl,q⟩:=q1;obtain ⟨t,rfl⟩:=r1;exact ⟨some i,H1,I1,.int i t,q⟩
def SlR (X:Cx) (r:V->Option Int->Option Int->Hp->VK->Prop):Prop :=
 ∀ (pins:List (Addr × Obj)) (s:Shared) (σ:St) (H:Hp) (x:V) (v vl vu:Value) (lo hi:Option Int) (sl:Addr) (Q:VK),Inv X pins σ H s->RelV x v->s.heap.IsSliceOf sl vl vu .none->IsPart vl lo->IsPart vu hi->r x lo hi H Q ->
   ∃ T id,typeLookup (.type T) "__getitem__"=pure (some (.builtin id))/\s.TypeIs v T/\wpAny (model X.prog X.w) X.A (getItem v (.ref sl)) (EP X pins σ Q) X.xe s
def tSl (r:V->Option Int->Option Int->Hp->VK->Prop) (te:TE) (tl th:TO):TE:=fun σ H Q=>te σ H fun x H1=>tl σ H1 fun l H2=>th σ H2 fun u H3=>r x l u H3 Q
theorem fo {r:V->Option Int->Option Int->Hp->VK->Prop} (hr:SlR X r) (he:PE X e te) (hl:PO X lo tl) (hu:PO X hi th):PE X (.Subscript e (.Slice lo hi none p2) pos) (tSl r te tl th):=by
 intro pins s σ H Q I h;refine Subscript_ (bd (he pins s σ H _ I h) fun v s1 x H1 I1 r1 q1=>?_);refine wpAny_Slice (thn (hl pins s1 σ H1 _ I1 q1) fun vl s2 ⟨l,H2,I2,pl,q2⟩=>thn (hu pins s2 σ H2 _ I2 q2) fun vu s3 ⟨u,H3,I3,pu,q3⟩=>?_);rw [evalPart_none];refine wpAny_pure ?_;have I4:Inv X pins σ H3 { s3 with heap:=s3.heap.push { cls:=.type "slice",data:=.fields #[vl,vu,.none] } }:=I3.kept (t':=s3.toks) fun b ob q=>Heap.get?_push_of_some _ q;obtain ⟨T,id,hT,ht,hg⟩:=hr pins { s3 with heap:=s3.heap.push { cls:=.type "slice",data:=.fields #[vl,vu,.none] } } σ H3 x v vl vu l u s3.heap.objs.size Q I4 r1 (Heap.IsSliceOf.new ..) pl pu q3;show wpAny (model X.prog X.w) X.A (subscriptTail e (.Slice lo hi none p2) v (.ref s3.heap.objs.size)) (EP X pins σ Q) X.xe { s3 with heap:=s3.heap.push { cls:=.type "slice",data:=.fields #[vl,vu,.none] } };exact tail_any (ops:=[.ref s3.heap.objs.size,v]) ht hT hg (by with_unfolding_all rfl)
def oy (xs:List V) (lo hi:Option Int):List V:=(xs.drop (HT.sIx xs.length 0 lo)).take (HT.sIx xs.length xs.length hi - HT.sIx xs.length 0 lo)
theorem vL (xs:List V) (lo hi:Option Int):(oy xs lo hi).length<=xs.length:=by
 unfold oy;rw [List.length_take,List.length_drop];omega
end
end L2
namespace L2
open PySem PySem.Spec PyProof.Rows
def ixN (n:Nat) (i:Int):Option Nat:=if 0<=i then (if i<n then some i.toNat else none) else if -(n:Int)<=i then some (i+n).toNat else none
def atI {α:Type} (xs:List α) (i:Int):Option α:=(ixN xs.length i).bind fun j=>xs[j]?
theorem xj {n:Nat} {i:Int} {j:Nat} (h:ixN n i=some j):seqIndex? i n=some j/\j<n/\-(n:Int)<=i/\i<n:=by
 unfold ixN at h;by_cases h0:0<=i
 . rw [if_pos h0] at h;by_cases h1:i<n
   . rw [if_pos h1] at h;have e:i.toNat=j:=Option.some.inj h;exact ⟨by rw [seqIndex_of h0 h1,e],by omega,by omega,h1⟩
   . rw [if_neg h1] at h;cases h
 . rw [if_neg h0] at h;by_cases h1:-(n:Int)<=i
   . rw [if_pos h1] at h;have e:(i+n).toNat=j:=Option.some.inj h;exact ⟨by rw [seqIndex_neg (by omega) h1,e],by omega,h1,by omega⟩
   . rw [if_neg h1] at h;cases h
theorem xg {α:Type} {xs:List α} {i:Int} {v:α} (h:atI xs i=some v):∃ j,seqIndex? i xs.length=some j/\xs[j]?=some v/\j<xs.length/\-(xs.length:Int)<=i/\i<xs.length:=by
 unfold atI at h;cases e:ixN xs.length i with
 | none=>rw [e] at h;cases h
 | some j =>
   rw [e] at h;obtain ⟨h1,h2,h3,h4⟩:=xj e;exact ⟨j,h1,h,h2,h3,h4⟩
theorem pE {α:Type} {xs:List α} {j:Nat} {v:α} (h:xs[j]?=some v):atI xs (j:Int)=some v:=by
 have hj:j<xs.length:=(List.getElem?_eq_some_iff.mp h).1;have e:ixN xs.length (j:Int)=some j:=by
   unfold ixN;rw [if_pos (by omega),if_pos (by omega)];simp
 unfold atI;rw [e];exact h
def CL (b:Expr):Prop:=∀ o i,subscripted b false o i=operate [o,i] (getItem o i)
def IxR (X:Cx) (r:R2):Prop :=
 ∀ (value slice:Expr) (pins:List (Addr × Obj)) (s:Shared) (σ:St) (H:Hp) (x y:V) (v u:Value) (Q:VK),Inv X pins σ H s->RelV x v->RelV y u->r x y H Q ->
   subscripted slice false v u=operate [v,u] (getItem v u)->wpAny (model X.prog X.w) X.A (subscriptTail value slice v u) (EP X pins σ Q) X.xe s
def MtR (X:Cx) (id:String) (r:V->List V->Hp->VK->Prop):Prop :=
 ∀ (pins:List (Addr × Obj)) (s:Shared) (σ:St) (H:Hp) (x:V) (xs:List V) (v:Value) (us:List Value) (Q:VK),Inv X pins σ H s->RelV x v->Vals xs us->r x xs H Q ->
   wpAny (model X.prog X.w) X.A (call (.builtin id) (v::us)) (EP X pins σ Q) X.xe s
section
variable {X:Cx} {a b:Expr} {ta tb:TE} {pos:Pos}
theorem aA {r:R2} (hr:IxR X r) (ha:PE X a ta) (hb:PE X b tb) (hs:CL b):PE X (.Subscript a b pos) (tOp r ta tb):=by
 intro pins s σ H Q I h;exact Subscript_ (AF ha hb I h fun v u s2 x y H2 I2 rx ry q=>hr a b pins s2 σ H2 x y v u Q I2 rx ry q (hs _ _))
def Bw (K:PySem.W.Frag):R2:=fun x y H Q=>∃ p xs i v,x=.ref p/\y=.int i/\SqL K H p xs/\atI xs i=some v/\Q v H
def D1 (K:PySem.W.Frag):R2:=fun x y H Q=>∃ p xs i v,x=.ref p/\y=.int i/\SqT K H p xs/\atI xs i=some v/\Q v H
theorem a6:IxR X (Bw X.K):=by
 intro value slice pins s σ H x y v u Q I rx ry h hs;obtain ⟨p,xs,i,z,rfl,rfl,hq,he,q⟩:=h;cases rx;obtain ⟨t,rfl⟩:=ry;obtain ⟨its,r,pl,hz⟩:=I.list hq;obtain ⟨j,h1,h2,h3,h4,h5⟩:=xg he;obtain ⟨w,ew,rw'⟩:=r.get h2;have hl:=r.length;have hn:=kE;have fin:EP X pins σ Q w s:=⟨z,H,I,rw',q⟩;by_cases h0:0<=i
 . have hj:i.toNat=j:=by
     rw [seqIndex_of h0 h5] at h1;exact Option.some.inj h1
   exact item_listR pl.isList h0 (by omega) (by rw [hj];simpa using ew) fin hs
 . have hj:(i+(its.toArray.size:Int)).toNat=j:=by
     rw [seqIndex_neg (by omega) h4] at h1;rw [List.size_toArray,<- hl];exact Option.some.inj h1
   exact subscriptTail_builtinR (x:=w) pl.isList.typeIs slot_list_getitem.lookup
     (wpAny_getItem_list_neg (Q:=fun r s'=>r=w/\EP X pins σ Q r s') pl.isList (by omega) (by rw [List.size_toArray] <;> omega) (by omega) (by rw [hj];simpa using ew) ⟨rfl,fin⟩) hs
theorem bp:IxR X (D1 X.K):=by
 intro value slice pins s σ H x y v u Q I rx ry h hs;obtain ⟨p,xs,i,z,rfl,rfl,hq,he,q⟩:=h;cases rx;obtain ⟨t,rfl⟩:=ry;obtain ⟨its,r,pl,hz⟩:=I.tuple hq;obtain ⟨j,h1,h2,h3,h4,h5⟩:=xg he;obtain ⟨w,ew,rw'⟩:=r.get h2;have hl:=r.length;have hn:=kE;have fin:EP X pins σ Q w s:=⟨z,H,I,rw',q⟩;exact subscriptTail_builtinR (x:=w) pl.typeIs slot_tuple_getitem.lookup
   (getItem_tuple (j:=j) (Q:=fun r s'=>r=w/\EP X pins σ Q r s') pl (by omega) (by omega) (by rw [List.size_toArray,<- hl];exact h1) (by simpa using ew) ⟨rfl,fin⟩) hs
theorem xR (its:List Value) (n j:Nat) (u:Value):Obj.mapSeq (·.setIfInBounds j u) { cls:=.type "list",data:=.seq its.toArray n }={ cls:=.type "list",data:=.seq (its.set j u).toArray n }:=by
 simp [Obj.mapSeq]
theorem Inv.lst {pins:List (Addr × Obj)} {σ:St} {H:Hp} {s:Shared} {p:Addr} {xs:List V} (I:Inv X pins σ H s) (h:H p=some (.lst xs)) :
   ∃ (its:List Value) (n:Nat),Vals xs its/\s.heap.get? p=some { cls:=.type "list",data:=.seq its.toArray n }/\xs.length<=sizeLine:=by
 obtain ⟨z,its,n,r,e⟩:=I.hok p _ h;exact ⟨its,n,r,e,z⟩
theorem Inv.lstUpd {pins:List (Addr × Obj)} {σ:St} {H:Hp} {s:Shared} {p:Addr} {xs ys:List V} {its its':List Value} {n n':Nat} {f:Obj->Obj} (I:Inv X pins σ H s) (h:H p=some (.lst xs))
   (ho:s.heap.get? p=some { cls:=.type "list",data:=.seq its.toArray n }) (hf:f { cls:=.type "list",data:=.seq its.toArray n }={ cls:=.type "list",data:=.seq its'.toArray n' }) (r:Vals ys its') (hz:ys.length<=sizeLine) (t:Nat) :
   Inv X pins σ (upd H p (.lst ys)) { s with heap:=s.heap.update p f,toks:=t }:=by
 have e:(s.heap.update p f).get? p=some { cls:=.type "list",data:=.seq its'.toArray n' }:=by
   rw [Heap.get?_update_self f ho (by rw [hf] <;> rfl),hf]
 refine I.write (x:=p) (e:=p) (by rw [h];trivial) (.inl rfl) (fun b u hb q=>(Heap.get?_update_other _ _ (Ne.symm hb)).trans q) ⟨_,e⟩ ?_;exact ⟨hz,its',n',r,e⟩
def rSetL:V->V->V->Hp->(Hp->Prop)->Prop:=fun o i v H Q=>∃ p xs k j,o=.ref p/\i=.int k/\H p=some (.lst xs)/\ixN xs.length k=some j/\Q (upd H p (.lst (xs.set j v)))
theorem uK:D6 X rSetL:=by
 intro pins s σ H o i v ov iv u Q I ro ri rv h;obtain ⟨p,xs,k,j,rfl,rfl,hp,hj,q⟩:=h;cases ro;obtain ⟨t,rfl⟩:=ri;obtain ⟨its,n,r,ho,hz⟩:=I.lst hp;obtain ⟨h1,h2,h3,h4⟩:=xj hj;have hl:=r.length;have hn:=kE;have I':Inv X pins σ (upd H p (.lst (xs.set j v))) { s with heap:=s.heap.update p (Obj.mapSeq (·.setIfInBounds j u)) } :=
   I.lstUpd hp ho (xR its n j u) (r.set rv j) (by rw [List.length_set];exact hz) s.toks
 by_cases h0:0<=k
 . have hk:k.toNat=j:=by
     rw [seqIndex_of h0 h4] at h1;exact Option.some.inj h1
   exact PySem.W.ki_setAt ho h0 (by omega) (by rw [List.size_toArray,<- hl];exact h4) (by rw [hk];exact ⟨_,I',q⟩)
 . have hk:(k+(its.toArray.size:Int)).toNat=j:=by
     rw [seqIndex_neg (by omega) h3] at h1;rw [List.size_toArray,<- hl];exact Option.some.inj h1
   exact PySem.W.ki_setBack ho (by omega) (by rw [List.size_toArray,<- hl];exact h3) (by omega) (by rw [hk];exact ⟨_,I',q⟩)
theorem uW (lo hi:Option Int) (n:Nat):(sliceBounds lo hi none n).1=((HT.sIx n 0 lo:Nat):Int)/\(sliceBounds lo hi none n).2.1=((HT.sIx n n hi:Nat):Int)/\(sliceBounds lo hi none n).2.2=1:=by
 refine ⟨?_,?_,rfl⟩
 . cases lo with
   | none=>simp [sliceBounds,HT.sIx]
   | some i =>
     simp only [sliceBounds,HT.sIx,Option.getD_none,show (1:Int) > 0 by decide,if_true];by_cases h:i<0
     . simp only [h,if_true] <;> omega
     . simp only [h,if_false] <;> omega
 . cases hi with
   | none=>simp [sliceBounds,HT.sIx]
   | some i =>
     simp only [sliceBounds,HT.sIx,Option.getD_none,show (1:Int) > 0 by decide,if_true];by_cases h:i<0
     . simp only [h,if_true] <;> omega
     . simp only [h,if_false] <;> omega
theorem tP (its:List Value) (lo hi:Option Int):slicePick its.toArray lo hi none=((its.drop (HT.sIx its.length 0 lo)).take (HT.sIx its.length its.length hi - HT.sIx its.length 0 lo)).toArray:=by
 obtain ⟨h1,h2,h3⟩:=uW lo hi its.toArray.size;unfold slicePick;rw [h1,h2,h3];simp only [sliceRange_one,pick_run,List.size_toArray] <;> rfl
def xI (K:PySem.W.Frag):V->Option Int->Option Int->Hp->VK->Prop:=fun x lo hi H Q=>∃ a xs,x=.ref a/\SqL K H a xs/\∀ p,H p=none->Q (.ref p) (upd H p (.lst (oy xs lo hi)))
theorem fY:SlR X (xI X.K):=by
 intro pins s σ H x v vl vu lo hi sl Q I rx hs pl pu h;obtain ⟨a,xs,rfl,hx,q⟩:=h;cases rx;obtain ⟨its,r,ht,hz⟩:=I.list hx;have hlen:=r.length;refine ⟨"list",_,slot_list_getitem.lookup,ht.isList.typeIs,?_⟩;refine wpAny_getItem_list_slice ht.isList hs pl pu .none (by simp) ?_ (by rw [List.size_toArray] <;> omega);rw [tP,<- hlen];refine ⟨.ref s.heap.objs.size,_,I.laid (t':=s.toks) (o:=.lst (oy xs lo hi)) (fun b ob q=>Heap.get?_push_of_some _ q) (Nat.le_refl _) ?_,rfl,q _ (I.hok.fresh (Nat.le_refl _))⟩;exact ⟨Nat.le_trans (vL xs lo hi) hz,_,0,(r.drop (HT.sIx xs.length 0 lo)).take (HT.sIx xs.length xs.length hi - HT.sIx xs.length 0 lo),Heap.get?_push_size _ rfl⟩
theorem bD:gN X (.builtin "len") (fun xs H Q=>∃ p ys,xs=[.ref p]/\(SqL X.K H p ys\/SqT X.K H p ys)/\Q (.int ys.length) H):=by
 intro pins s σ H xs us Q I r h;obtain ⟨p,ys,rfl,hq,q⟩:=h;obtain ⟨u,rfl,rx⟩:=pk r;cases rx;have hn:=kE;rcases hq with hq|hq
 . obtain ⟨its,r',pl,hz⟩:=I.list hq;have hlen:=r'.length;exact Calls.call_len_list pl.isList (by simp only [List.size_toArray] <;> omega) ⟨.int ys.length,H,I.tok _,⟨s.toks+1,by rw [List.size_toArray,hlen]⟩,q⟩
 . obtain ⟨its,r',pl,hz⟩:=I.tuple hq;have hlen:=r'.length;exact len_tuple pl (by simp only [List.size_toArray] <;> omega) ⟨.int ys.length,H,I.tok _,⟨s.toks+1,by rw [List.size_toArray,hlen]⟩,q⟩
theorem pj:gN X (.type "list") (fun xs H Q=>∃ p ys,xs=[.ref p]/\(SqL X.K H p ys\/SqT X.K H p ys)/\∀ l,H l=none->Q (.ref l) (upd H l (.lst ys))):=by
 intro pins s σ H xs us Q I r h;obtain ⟨p,ys,rfl,hq,q⟩:=h;obtain ⟨u,rfl,rx⟩:=pk r;cases rx;have fin:∀ (its:List Value),Vals ys its->ys.length<=sizeLine->∀ (h':Heap) (c':Nat),(∀ b o',s.heap.get? b=some o'->h'.get? b=some o') ->
     h'.get? s.heap.objs.size=some { cls:=.type "list",dict:=none,data:=.seq its.toArray c',slots:=#[] }->EP X pins σ Q (.ref s.heap.objs.size) { s with heap:=h' }:=fun its r' hz h' c' kp e =>
   ⟨.ref s.heap.objs.size,_,I.laid (t':=s.toks) kp (Nat.le_refl _) (show ObjOk X.prog X.w _ h' _ (.lst ys) from ⟨hz,its,c',r',e⟩),rfl,q _ (I.hok.fresh (Nat.le_refl _))⟩
 rcases hq with hq|hq
 . obtain ⟨its,r',pl,hz⟩:=I.list hq;have hlen:=r'.length;obtain ⟨o,ho,hc,n,hd⟩:=pl.isList;exact call_list_seq p (.inl rfl) ho hc hd (fun h' c' kp e=>fin its r' hz h' c' kp e) (by simp only [List.size_toArray] <;> omega)
 . obtain ⟨its,r',pl,hz⟩:=I.tuple hq;have hlen:=r'.length;obtain ⟨o,ho,hc,n,hd⟩:=pl;exact call_list_seq p (.inr rfl) ho hc hd (fun h' c' kp e=>fin its r' hz h' c' kp e) (by simp only [List.size_toArray] <;> omega)
theorem nn:gN X (.type "tuple") (fun xs H Q=>∃ p ys,xs=[.ref p]/\((SqL X.K H p ys/\∀ l,H l=none->Q (.ref l) (upd H l (.tup ys)))\/(SqT X.K H p ys/\Q (.ref p) H))):=by
 intro pins s σ H xs us Q I r h;obtain ⟨p,ys,rfl,h⟩:=h;obtain ⟨u,rfl,rx⟩:=pk r;cases rx;rcases h with ⟨hq,q⟩|⟨hq,q⟩
 . obtain ⟨its,r',pl,hz⟩:=I.list hq;have hlen:=r'.length;refine call_tuple_list pl.isList (fun h' kp=>?_) (by simp only [List.size_toArray] <;> omega);have I1:Inv X pins σ H { s with heap:=h' }:=I.kept (t':=s.toks) kp;have I2:Inv X pins σ (upd H h'.objs.size (.tup ys)) { s with heap:=h'.push { cls:=.type "tuple",data:=.seq its.toArray } } :=
     I1.laid (t':=s.toks) (fun b o e=>Heap.get?_push_of_some _ e) (Nat.le_refl _) (show ObjOk X.prog X.w _ _ _ (.tup ys) from ⟨hz,its,r',IsTup.new _ _⟩)
   exact ⟨.ref h'.objs.size,_,I2,rfl,q _ (I1.hok.fresh (Nat.le_refl _))⟩
 . obtain ⟨its,r',pl,hz⟩:=I.tuple hq;exact call_tuple_same pl ⟨.ref p,H,I,rfl,q⟩
def tyV (K:PySem.W.Frag) (T:String) (x:V) (H:Hp):Prop:=match x with
 | .str _=>T="str"
 | .int _=>T="int"
 | .ref p=>(T="list"/\∃ xs,SqL K H p xs)\/(T="tuple"/\∃ o,K.lookup p=some o/\o.cls=.type "tuple"/\o.dict=none) \/
     (T="dict"/\((∃ kvs,H p=some (.dK kvs))\/∃ kvs,H p=some (.dT kvs)))\/(T="set"/\∃ S n,H p=some (.set S n))
 | _=>False
theorem yV {pins:List (Addr × Obj)} {σ:St} {H:Hp} {s:Shared} {T:String} {x:V} {v:Value} (I:Inv X pins σ H s) (r:RelV x v) (ty:tyV X.K T x H) :
   s.TypeIs v T/\∀ a,v=.ref a->∃ ob,s.heap.get? a=some ob/\ob.dict=none:=by
 cases x with
 | str z =>
   obtain ⟨t,rfl⟩:=r;cases (show T="str" from ty);exact ⟨typeIs_str s z t,fun _ e=>nomatch e⟩
 | int i =>
   obtain ⟨t,rfl⟩:=r;cases (show T="int" from ty);exact ⟨typeIs_int s i t,fun _ e=>nomatch e⟩
 | ref p =>
   cases r;rcases ty with ⟨rfl,xs,hq⟩|⟨rfl,o,hk,hc,hd⟩|⟨rfl,hk⟩|⟨rfl,S,n,hk⟩
   . obtain ⟨its,_,pl,_⟩:=I.list hq;refine ⟨pl.isList.typeIs,fun a e=>?_⟩;cases e;obtain ⟨o,n,e,c,hd,_⟩:=pl;exact ⟨o,e,hd⟩
   . refine ⟨⟨o,I.kIn p o hk,hc⟩,fun a e=>?_⟩;cases e;exact ⟨o,I.kIn _ o hk,hd⟩
   . have z:∃ o,s.heap.get? p=some o/\o.ExactDict:=by
       rcases hk with ⟨kvs,hk⟩|⟨kvs,hk⟩
       . obtain ⟨_,_,_,_,o,_,_,e,ex,_⟩:=I.hok p _ hk;exact ⟨o,e,ex⟩
       . obtain ⟨_,_,_,_,o,_,_,e,ex,_⟩:=I.hok p _ hk;exact ⟨o,e,ex⟩
     obtain ⟨o,e,ex⟩:=z;refine ⟨⟨o,e,ex.1⟩,fun a e2=>?_⟩;cases e2;exact ⟨o,e,ex.2.1⟩
   . obtain ⟨o,_,_,_,e,ex,_⟩:=I.hok p _ hk;refine ⟨⟨o,e,ex.1⟩,fun a e2=>?_⟩;cases e2;exact ⟨o,e,ex.2.1⟩
 | _=>exact False.elim ty
def BA (K:PySem.W.Frag) (T:String) (r:V->List V->Hp->VK->Prop) (to:TE):TE:=fun σ H Q=>to σ H fun x H1=>tyV K T x H1/\r x [] H1 Q
def tBM (K:PySem.W.Frag) (T:String) (r:V->List V->Hp->VK->Prop) (to:TE) (t:TA):TE:=fun σ H Q=>to σ H fun x H1=>tyV K T x H1/\t σ H1 fun xs H2=>r x xs H2 Q
variable {o e:Expr} {es:List Expr} {to:TE} {t:TA} {name:Str} {apos cpos:Pos} {T id:String} {r:V->List V->Hp->VK->Prop}
theorem CT (pa:PlainAttrs T) (slot:Slot T name id) (hty:typeOf (.builtin id)=pure (.type "method_descriptor")) (hm:MtR X id r) (ho:PE X o to)
   (hbase:attributeBase o name X.env (eval o X.env)=eval o X.env:=by rfl) (hline:(apos.endLine == cpos.line)=true:=by rfl):PE X (.Call (.Attribute o name apos) [] [] cpos) (BA X.K T r to):=by
 intro pins s σ H Q I h;refine wpAny_Call_method0_late hbase hline (bd (ho pins s σ H _ I h) fun v s1 x H1 I1 r1 ⟨ty,q1⟩=>?_);obtain ⟨h1,h2⟩:=yV I1 r1 ty;exact ⟨T,id,pa,slot,hty,h1,h2,Calls.callWith_builtin rfl (PySem.evalArgs_none (hm pins s1 σ H1 x [] v [] Q I1 r1 .nil q1))⟩
theorem pC (pa:PlainAttrs T) (slot:Slot T name id) (hty:typeOf (.builtin id)=pure (.type "method_descriptor")) (hm:MtR X id r) (ho:PE X o to) (ha:PA X (e::es) t)
   (hbase:attributeBase o name X.env (eval o X.env)=eval o X.env:=by rfl)
   (hfew:((backTo cpos (starEach (e::es) X.env)).all (fun x=>!x.1) && (backToKw cpos (keywordEach [] X.env)).all (fun x=>x.1.isSome)
     && decide ((e::es).length+([]:List Keyword).length+(if ([]:List Keyword).isEmpty then 0 else 1)<30))=true:=by rfl)
   (hline:(apos.endLine == cpos.line)=true:=by rfl) (hs:starEach (e::es) X.env=(false,eval e X.env)::starEach es X.env:=by rfl) (hplain:(backTo cpos (starEach es X.env)).any (·.1)=false:=by rfl) :
   PE X (.Call (.Attribute o name apos) (e::es) [] cpos) (tBM X.K T r to t):=by
 intro pins s σ H Q I h;refine wpAny_Call_method_late hbase hfew hline rfl (bd (ho pins s σ H _ I h) fun v s1 x H1 I1 r1 ⟨ty,q1⟩=>?_);obtain ⟨h1,h2⟩:=yV I1 r1 ty;refine ⟨T,id,pa,slot,hty,h1,h2,?_⟩;have hA:=ha cpos pins s1 σ H1 _ I1 q1;rw [hs] at hA ⊢;refine Calls.callWith_builtin (by show (false || (backTo cpos (starEach es X.env)).any (·.1))=false;rw [hplain] <;> rfl) (Calls.evalArgs_plain ?_);exact thn hA fun us s2 ⟨vs,H2,I2,r2,q2⟩=>hm pins s2 σ H2 x vs v us Q I2 r1 r2 q2
end
end L2
namespace L2
open PySem PySem.Spec PyProof.Rows
def MtM (X:Cx) (id:String) (r:V->List V->Hp->VK->Prop):Prop :=
 ∀ (pins:List (Addr × Obj)) (s:Shared) (σ:St) (H:Hp) (x:V) (xs:List V) (v:Value) (us:List Value) (Q:VK),Inv X pins σ H s->RelV x v->Vals xs us->r x xs H Q ->
   wpAny (model X.prog X.w) X.A (call (.builtin id) (v::us)) (EP X pins σ Q) X.xe s
theorem Vals.one {x:V} {us:List Value} (h:Vals [x] us):∃ u,us=[u]/\RelV x u:=by
 cases h with
 | cons r t=>cases t;exact ⟨_,rfl,r⟩
theorem Vals.two {x y:V} {us:List Value} (h:Vals [x,y] us):∃ u v,us=[u,v]/\RelV x u/\RelV y v:=by
 cases h with
 | cons r t =>
   obtain ⟨v,e,q⟩:=Vals.one t;subst e;exact ⟨_,v,rfl,r,q⟩
theorem Vals.zero:∀ {us:List Value},Vals [] us->us=[]
 | _,.nil=>rfl
theorem Vals.dropLast {xs:List V} {us:List Value} (h:Vals xs us):Vals xs.dropLast us.dropLast:=by
 induction h with
 | nil=>exact .nil
 | cons r t ih =>
   cases t with
   | nil=>exact .nil
   | cons q t'=>exact .cons r ih
theorem Vals.rep {xs:List V} {us:List Value} (h:Vals xs us):∀ k:Nat,Vals (List.replicate k xs).flatten (List.replicate k us).flatten
 | 0=>.nil
 | k+1=>by
   rw [List.replicate_succ,List.replicate_succ,List.flatten_cons,List.flatten_cons];exact Vals.append h (Vals.rep h k)
theorem xK {α:Type} (l:List α):l.eraseIdx (l.length - 1)=l.dropLast:=by
 induction l with
 | nil=>rfl
 | cons a r ih =>
   cases r with
   | nil=>rfl
   | cons b r =>
     have e:(a::b::r).length - 1=((b::r).length - 1)+1:=by
       have h1:(a::b::r).length=r.length+2:=rfl;have h2:(b::r).length=r.length+1:=rfl;omega
     rw [e,List.eraseIdx_cons_succ,ih]
     all_goals rfl
theorem tE (its:List Value):∀ (k:Nat) (acc:List Value),
   List.foldl (fun x1 x2=>x1++x2) acc.toArray (List.replicate k its.toArray)=(acc++(List.replicate k its).flatten).toArray
 | 0,acc=>by simp
 | k+1,acc=>by
   have e:acc.toArray++its.toArray=(acc++its).toArray:=by simp
   have e2:(acc++its)++(List.replicate k its).flatten=acc++(List.replicate (k+1) its).flatten:=by
     rw [List.replicate_succ,List.flatten_cons,List.append_assoc]
   rw [<- e2,<- tE its k (acc++its),<- e,List.replicate_succ,List.foldl_cons]
section
variable {X:Cx} {pins:List (Addr × Obj)} {σ:St} {H:Hp} {s:Shared} {l b:Addr} {xs ys zs:List V}
theorem Inv.lset {its its':List Value} {n:Nat} {f:Array Value->Array Value} {t':Nat} (I:Inv X pins σ H s) (hH:H l=some (.lst xs))
   (e:s.heap.get? l=some { cls:=.type "list",data:=.seq its.toArray n }) (hf:f its.toArray=its'.toArray) (hv:Vals ys its') (hz:ys.length<=sizeLine) :
   Inv X pins σ (upd H l (.lst ys)) { s with heap:=s.heap.update l (Obj.mapSeq f),toks:=t' }:=by
 have q:=PySem.IsL.update e f;rw [hf] at q;refine I.write (x:=l) (e:=l) (by rw [hH];exact trivial) (.inl rfl) (fun b' u hb hu=>(Heap.get?_update_other s.heap (Obj.mapSeq f) (Ne.symm hb)).trans hu) ⟨_,q⟩ ?_;exact ⟨hz,its',_,hv,q⟩
theorem Inv.lnew {its:List Value} {t':Nat} (I:Inv X pins σ H s) (hv:Vals ys its) (hz:ys.length<=sizeLine) :
   Inv X pins σ (upd H s.heap.objs.size (.lst ys)) { s with heap:=s.heap.push { cls:=.type "list",data:=.seq its.toArray },toks:=t' } :=
 I.laid (fun _ _ q=>Heap.get?_push_of_some _ q) (Nat.le_refl _) ⟨hz,its,0,hv,Heap.get?_push_size _ rfl⟩
theorem Inv.fresh (I:Inv X pins σ H s):H s.heap.objs.size=none:=I.hok.fresh (Nat.le_refl _)
theorem Inv.lstM (I:Inv X pins σ H s) (hH:H l=some (.lst xs)):xs.length<=sizeLine/\∃ (its:List Value) (n:Nat),Vals xs its/\xs.length=its.length/\s.heap.get? l=some { cls:=.type "list",data:=.seq its.toArray n }:=by
 obtain ⟨z,its,n,r,e⟩:=I.hok l _ hH;exact ⟨z,its,n,r,r.length,e⟩
theorem B4 {n:Nat} (h:n<=sizeLine):Builtin.List.listTooLong n=false:=by
 unfold Builtin.List.listTooLong;exact decide_eq_false (by omega)
end
section
variable {X:Cx}
def rAppend:V->List V->Hp->VK->Prop:=fun x vs H Q=>∃ l xs y,x=.ref l/\vs=[y]/\H l=some (.lst xs)/\xs.length<sizeLine/\Q .non (upd H l (.lst (xs++[y])))
theorem fm:MtM X "list.append" rAppend:=by
 intro pins s σ H x vs v us Q I rx rv h;obtain ⟨l,xs,y,rfl,rfl,hH,hz,q⟩:=h;cases rx;obtain ⟨u,rfl,ru⟩:=rv.one;obtain ⟨z,its,n,r,hl,e⟩:=I.lstM hH;refine call_meets F.slot_list_append ⟨_,e,rfl⟩ F.entry_list_append (F.args_list_append_2 _ _) (PySem.list_append l its.toArray n u (by rw [List.size_toArray];omega)) ⟨e,?_⟩;refine ⟨.non,_,I.lset (its':=its++[u]) hH e (by simp) (r.append (.cons ru .nil)) ?_,rfl,q⟩;rw [List.length_append,List.length_singleton];omega
def rPop:V->List V->Hp->VK->Prop:=fun x vs H Q=>∃ l xs y,x=.ref l/\vs=[]/\H l=some (.lst xs)/\xs[xs.length - 1]?=some y/\Q y (upd H l (.lst xs.dropLast))
theorem D0:MtM X "list.pop" rPop:=by
 intro pins s σ H x vs v us Q I rx rv h;obtain ⟨l,xs,y,rfl,rfl,hH,hy,q⟩:=h;cases rx;have hus:=rv.zero;subst hus;obtain ⟨z,its,n,r,hl,e⟩:=I.lstM hH;obtain ⟨u,hu,ru⟩:=r.get hy;have hy':its.toArray[its.toArray.size - 1]?=some u:=by
   show its.toArray[its.length - 1]?=some u;rw [<- Array.getElem?_toList,<- hl];exact hu
 refine call_meets F.slot_list_pop ⟨_,e,rfl⟩ F.entry_list_pop (F.args_list_pop_1 _) (MeetsSeq.list_pop_last l its.toArray n u hy' (by rw [List.size_toArray];omega)) ⟨e,?_⟩;refine ⟨y,_,I.lset (its':=its.dropLast) hH e ?_ r.dropLast ?_,ru,q⟩
 . show its.toArray.eraseIdxIfInBounds (its.toArray.size - 1)=its.dropLast.toArray;rw [List.size_toArray,List.eraseIdxIfInBounds_toArray,xK]
 . rw [List.length_dropLast];omega
def rCat:R2:=fun x y H Q=>∃ l b xs zs,x=.ref l/\y=.ref b/\H l=some (.lst xs)/\H b=some (.lst zs)/\xs.length+zs.length<=sizeLine/\∀ p,H p=none->Q (.ref p) (upd H p (.lst (xs++zs)))
theorem gM:OpR X (binaryOp .Add) rCat:=by
 intro pins s σ H x y v u Q I rx ry h;obtain ⟨l,b,xs,zs,rfl,rfl,hH,hB,hz,q⟩:=h;cases rx;cases ry;obtain ⟨z,its,n,r,hl,e⟩:=I.lstM hH;obtain ⟨z2,its2,n2,r2,hl2,e2⟩:=I.lstM hB;refine PySem.P.add_list e e2 ?_ (by rw [List.size_toArray,List.size_toArray];omega);have ea:its.toArray++its2.toArray=(its++its2).toArray:=by simp
 rw [ea];exact ⟨.ref _,_,I.lnew (t':=s.toks) (r.append r2) (by rw [List.length_append];omega),rfl,q _ I.fresh⟩
def rRep:R2:=fun x y H Q=>∃ l k xs,x=.ref l/\y=.int k/\H l=some (.lst xs)/\-(2^63)<=k/\k<2^63/\xs.length*k.toNat<=sizeLine /\
 ∀ p,H p=none->Q (.ref p) (upd H p (.lst (List.replicate k.toNat xs).flatten))
theorem Cr {α:Type} (xs:List α) (k:Nat):(List.replicate k xs).flatten.length=k*xs.length:=by
 induction k with
 | zero=>simp
 | succ k ih=>rw [List.replicate_succ,List.flatten_cons,List.length_append,ih,Nat.succ_mul,Nat.add_comm]
theorem C1:OpR X (binaryOp .Mult) rRep:=by
 intro pins s σ H x y v u Q I rx ry h;obtain ⟨l,k,xs,rfl,rfl,hH,h1,h2,hz,q⟩:=h;cases rx;obtain ⟨t,rfl⟩:=ry;obtain ⟨z,its,n,r,hl,e⟩:=I.lstM hH;have hlen:its.toArray.size*k.toNat<=sizeLine:=by rw [List.size_toArray,<- hl];exact hz
 have hcap:¬ its.toArray.size*k.toNat > (2^63 - 1) / 8:=by
   have:(sizeLine:Nat)<=(2^63 - 1) / 8:=by decide
   omega
 have hfit:¬ (!Builtin.List.listFitsIndex k)=true:=by
   rw [fitsIndex_both h1 h2];exact Bool.false_ne_true
 have hlong:¬ Builtin.List.listTooLong (its.toArray.size*k.toNat)=true:=by
   rw [B4 hlen];exact Bool.false_ne_true
 have hnew:List.foldl (fun x1 x2=>x1++x2) #[] (List.replicate (if its.toArray.isEmpty=true then 0 else k.toNat) its.toArray)=(List.replicate k.toNat its).flatten.toArray:=by
   have f0:∀ m:Nat,List.foldl (fun x1 x2=>x1++x2) #[] (List.replicate m its.toArray)=(List.replicate m its).flatten.toArray:=fun m=>by
     have:=tE its m [];rw [List.nil_append] at this;exact this
   rw [f0];cases its with
   | nil=>simp
   | cons a r'=>rw [if_neg (by simp)]
 refine wpAny_binaryOp_repeat_ref (T:="list") (U:="int") (by decide) ⟨_,e,rfl⟩ (fun s'=>typeIs_int s' k t) noFill_list_mul F.fills_int_mul F.slot_int_rmul repeat_list F.slot_int_index.lookup
   (call_meets F.slot_int_rmul (typeIs_int s k t) F.entry_int_rmul (F.args_int_rmul_2 _ _) (int___rmul___int_list k t l its.toArray n)
     ⟨e,rfl,⟨_,e,rfl⟩,call_meets F.slot_list_mul ⟨_,e,rfl⟩ F.entry_list_mul (F.args_list_mul_2 _ _) (AutoListH.list___mul___list_int_3 l its.toArray n k t hfit hcap hlong) ⟨e,?_⟩⟩)
 rw [hnew];exact ⟨.ref _,_,I.lnew (t':=s.toks) (r.rep k.toNat) (by rw [Cr,Nat.mul_comm];exact hz),rfl,q _ I.fresh⟩
end
section
variable {prog:Program} {w:World} {A:Around} {E:Value->Shared->Prop} {s:Shared}
set_option maxRecDepth 100000 in
end
section
variable {X:Cx}
end
end L2
namespace L2
open PySem PySem.Spec PyProof.Rows
section
variable {κ:Type} [DecidableEq κ]
def hJ (kvs:List (κ × V)) (k:κ):Option V:=(kvs.find? fun kv=>decide (kv.1=k)).map (·.2)
def dR (kvs:List (κ × V)) (k:κ) (v:V):List (κ × V) :=
 if (kvs.any fun kv=>decide (kv.1=k))=true then kvs.map (fun kv=>if kv.1=k then (kv.1,v) else kv) else kvs++[(k,v)]
theorem mF {p:κ × V} {r:List (κ × V)} {k:κ} (e:p.1=k):hJ (p::r) k=some p.2:=by simp [hJ,List.find?_cons,e]
theorem l6 {p:κ × V} {r:List (κ × V)} {k:κ} (e:¬ p.1=k):hJ (p::r) k=hJ r k:=by simp [hJ,List.find?_cons,e]
theorem qp (k:κ):∀ kvs:List (κ × V),(kvs.any fun kv=>decide (kv.1=k))=(hJ kvs k).isSome
 | []=>rfl
 | p::r=>by
   rw [List.any_cons];by_cases e:p.1=k
   . simp only [mF e,decide_eq_true e,Bool.true_or,Option.isSome_some]
   . rw [l6 e,decide_eq_false e,Bool.false_or];exact qp k r
theorem kj (kvs:List (κ × V)) (k:κ) (v:V):(dR kvs k v).length<=kvs.length+1:=by
 unfold dR;split
 . rw [List.length_map];omega
 . rw [List.length_append,List.length_cons,List.length_nil];omega
theorem B5 {kvs:List (κ × V)} {k:κ} (v:V) (h:hJ kvs k=none):dR kvs k v=kvs++[(k,v)]:=by
 unfold dR;rw [qp,h];exact if_neg (by decide)
theorem RelO.isSome_eq {o:Option V} {u:Option Value} (r:RelO o u):o.isSome=u.isSome:=by
 cases o with
 | none=>cases u with
   | none=>rfl
   | some _=>exact (show False from r).elim
 | some _=>cases u with
   | none=>exact (show False from r).elim
   | some _=>rfl
theorem KV.val {kvs:List (κ × V)} {vs:List (κ × Value)} (r:KV kvs vs) (k:κ):RelO (hJ kvs k) (valueAt vs k):=by
 unfold KV at r
 induction r with
 | nil=>exact True.intro
 | @cons p q ps qs h t ih =>
   obtain ⟨h1,h2⟩:=h;by_cases e:p.1=k
   . have e':q.1=k:=h1.symm.trans e;have b:valueAt (q::qs) k=some q.2:=(by simp [valueAt,List.find?_cons,e']);rw [mF e,b];exact h2
   . have e':¬ q.1=k:=fun z=>e (h1.trans z);have b:valueAt (q::qs) k=valueAt qs k:=(by simp [valueAt,List.find?_cons,e']);rw [l6 e,b];exact ih
theorem KV.any {kvs:List (κ × V)} {vs:List (κ × Value)} (r:KV kvs vs) (k:κ):(kvs.any fun kv=>decide (kv.1=k))=vs.any fun kv=>decide (kv.1=k):=by
 unfold KV at r
 induction r with
 | nil=>rfl
 | cons h t ih=>rw [List.any_cons,List.any_cons,ih,h.1]
theorem KV.repl {kvs:List (κ × V)} {vs:List (κ × Value)} (r:KV kvs vs) (k:κ) {y:V} {u:Value} (ry:RelV y u) :
   KV (kvs.map fun kv=>if kv.1=k then (kv.1,y) else kv) (vs.map fun kv=>if kv.1=k then (kv.1,u) else kv):=by
 unfold KV at r ⊢
 induction r with
 | nil=>exact .nil
 | @cons p q ps qs h t ih =>
   rw [List.map_cons,List.map_cons];refine .cons ?_ ih;obtain ⟨h1,h2⟩:=h;by_cases e:p.1=k
   . rw [if_pos e,if_pos (h1.symm.trans e)];exact ⟨h1,ry⟩
   . rw [if_neg e,if_neg (fun z=>e (h1.trans z))];exact ⟨h1,h2⟩
theorem KV.put {kvs:List (κ × V)} {vs:List (κ × Value)} (r:KV kvs vs) (k:κ) {y:V} {u:Value} (ry:RelV y u):KV (dR kvs k y) (stored vs k u):=by
 unfold dR stored;rw [r.any k];by_cases e:(vs.any fun kv=>decide (kv.1=k))=true
 . rw [if_pos e,if_pos e];exact r.repl k ry
 . rw [if_neg e,if_neg e];exact Paired.snoc r ⟨rfl,ry⟩
theorem KV.length {kvs:List (κ × V)} {vs:List (κ × Value)} (r:KV kvs vs):kvs.length=vs.length:=Paired.length r
end
theorem rD {P:Program} {w:World} {k:Key} {u:Value} (r:RelV (kV k) u):(b9 P w).is k u=true:=by
 cases k with
 | inl i=>obtain ⟨t,e⟩:=(show ∃ t,u=Value.int i t from r);subst e;exact wk P w i t
 | inr x=>obtain ⟨t,e⟩:=(show ∃ t,u=Value.str x t from r);subst e;exact vy P w x t
theorem tF {P:Program} {w:World}:∀ {ks:List Key} {us:List Value},Vals (ks.map kV) us->ItemsAre (b9 P w) ks us
 | [],_,r=>by rw [List.map_nil] at r;cases r;exact .nil
 | k::ks,_,r=>by
   rw [List.map_cons] at r;cases r with
   | cons h t=>exact .cons (rD h) (tF t)
abbrev KT (H:Hp):List (List Key × V)->List (List Key × Addr × Value)->Prop:=Paired fun p q=>p.1=q.1/\H q.2.1=some (.tup (p.1.map kV))/\RelV p.2 q.2.2
theorem KT.val {H:Hp} {kvs:List (List Key × V)} {xs:List (List Key × Addr × Value)} (r:KT H kvs xs) (k:List Key):RelO (hJ kvs k) ((atKey xs k).map (·.2)):=by
 induction r with
 | nil=>exact True.intro
 | @cons p q ps qs h t ih =>
   obtain ⟨h1,_,h2⟩:=h;by_cases e:p.1=k
   . have e':q.1=k:=h1.symm.trans e;have b:atKey (q::qs) k=some q.2:=(by simp [atKey,List.find?_cons,e']);rw [mF e,b];exact h2
   . have e':¬ q.1=k:=fun z=>e (h1.trans z);have b:atKey (q::qs) k=atKey qs k:=(by simp [atKey,List.find?_cons,e']);rw [l6 e,b];exact ih
theorem KT.repl {H:Hp} {kvs:List (List Key × V)} {xs:List (List Key × Addr × Value)} (r:KT H kvs xs) (k:List Key) {y:V} {u:Value} (ry:RelV y u) :
   KT H (kvs.map fun kv=>if kv.1=k then (kv.1,y) else kv) (xs.map (putAt k u)):=by
 induction r with
 | nil=>exact .nil
 | @cons p q ps qs h t ih =>
   rw [List.map_cons,List.map_cons];refine .cons ?_ ih;obtain ⟨h1,h2,h3⟩:=h;unfold putAt;by_cases e:p.1=k
   . rw [if_pos e,if_pos (h1.symm.trans e)];exact ⟨h1,h2,ry⟩
   . rw [if_neg e,if_neg (fun z=>e (h1.trans z))];exact ⟨h1,h2,h3⟩
theorem KT.put {H:Hp} {kvs:List (List Key × V)} {xs:List (List Key × Addr × Value)} (r:KT H kvs xs) (k:List Key) {b:Addr} {y:V} {u:Value} (hb:H b=some (.tup (k.map kV))) (ry:RelV y u) :
   KT H (dR kvs k y) (storedH xs k b u):=by
 have e:(kvs.any fun kv=>decide (kv.1=k))=(atKey xs k).isSome:=by
   rw [qp,(r.val k).isSome_eq,Option.isSome_map]
 unfold dR storedH;rw [e];by_cases q:(atKey xs k).isSome=true
 . rw [if_pos q,if_pos q];exact r.repl k ry
 . rw [if_neg q,if_neg q];exact Paired.snoc r ⟨rfl,hb,ry⟩
theorem KT.keeps {H H':Hp} {kvs:List (List Key × V)} {xs:List (List Key × Addr × Value)} (r:KT H kvs xs) (ht:∀ b ys,H b=some (.tup ys)->H' b=some (.tup ys)):KT H' kvs xs :=
 Paired.mapP r fun _ _ z=>⟨z.1,ht _ _ z.2.1,z.2.2⟩
section
variable {P:Program} {w:World} {H:Hp} {h:Heap} {a:Addr}
theorem Cm {u:HO} (ok:HOk P w H h) (e:Rd H a u):ObjOk P w H h a u:=e.ok ok
theorem t8 {kvs:List (Key × V)} (ok:HOk P w H h) (e:Rd H a (.dK kvs)):kvs.length<=sizeLine/\(a == sysModules)=false/\∃ vs,KV kvs vs/\h.DictOf (b9 P w) a vs :=
 show ObjOk P w H h a (.dK kvs) from Cm ok e
theorem Ca {kvs:List (Key × V)} (ok:HOk P w H h) (e:H a=some (.dK kvs)):kvs.length<=sizeLine/\(a == sysModules)=false/\∃ vs,KV kvs vs/\h.DictOf (b9 P w) a vs:=t8 ok (.inl e)
theorem rB {ks:List Key} (ok:HOk P w H h) (e:H a=some (.tup (ks.map kV))):(tupleKind (b9 P w)).is h ks a:=by
 obtain ⟨_,its,r,o,h1,h2,n,h3⟩:=(show ObjOk P w H h a (.tup (ks.map kV)) from ok a _ e);exact ⟨o,its.toArray,n,h1,h2,h3,by simpa using tF r⟩
theorem xT {kvs:List (List Key × V)} (ok:HOk P w H h) (e:Rd H a (.dT kvs)):kvs.length<=sizeLine/\(a == sysModules)=false /\
   ∃ xs,KT H kvs xs/\h.DictOfH (tupleKind (b9 P w)) a xs:=by
 obtain ⟨z,y,xs,r,o,es,ep,h1,h2,h3,h4,h5⟩:=(show ObjOk P w H h a (.dT kvs) from Cm ok e);refine ⟨z,y,xs,r,o,es,ep,h1,h2,h3,h4,fun x hx=>?_,h5⟩;have all:∀ {l:List (List Key × V)} {m:List (List Key × Addr × Value)},KT H l m->∀ x∈m,(tupleKind (b9 P w)).is h x.1 x.2.1:=by
   intro l m q
   induction q with
   | nil=>intro x hx;exact nomatch hx
   | @cons p q ps qs hq t ih =>
     intro x hx;rcases List.mem_cons.mp hx with e|hx
     . subst e;exact rB ok (by rw [<- hq.1];exact hq.2.1)
     . exact ih x hx
 exact all r x hx
theorem D8 {kvs:List (List Key × V)} (ok:HOk P w H h) (e:H a=some (.dT kvs)):kvs.length<=sizeLine/\(a == sysModules)=false /\
   ∃ xs,KT H kvs xs/\h.DictOfH (tupleKind (b9 P w)) a xs:=xT ok (.inl e)
end
def DGet (H:Hp) (a:Addr) (y:V) (r:Option V):Prop :=
 (∃ kvs k,Rd H a (.dK kvs)/\y=kV k/\r=hJ kvs k)\/∃ kvs k b,Rd H a (.dT kvs)/\y=.ref b/\H b=some (.tup (k.map kV))/\r=hJ kvs k
def DPut (H:Hp) (a:Addr) (y v:V) (H':Hp):Prop :=
 (∃ kvs k,H a=some (.dK kvs)/\y=kV k/\kvs.length<sizeLine/\H'=upd H a (.dK (dR kvs k v))) \/
 ∃ kvs k b,H a=some (.dT kvs)/\y=.ref b/\H b=some (.tup (k.map kV))/\kvs.length<sizeLine/\H'=upd H a (.dT (dR kvs k v))
theorem DGet.k {H:Hp} {a:Addr} {kvs:List (Key × V)} {k:Key} (e:H a=some (.dK kvs)):DGet H a (kV k) (hJ kvs k):=.inl ⟨kvs,k,.inl e,rfl,rfl⟩
theorem DPut.k {H:Hp} {a:Addr} {kvs:List (Key × V)} {k:Key} {v:V} (e:H a=some (.dK kvs)) (hl:kvs.length<sizeLine):DPut H a (kV k) v (upd H a (.dK (dR kvs k v))):=.inl ⟨kvs,k,e,rfl,hl,rfl⟩
section
variable {X:Cx} {pins:List (Addr × Obj)} {σ:St} {H:Hp} {s:Shared} {a:Addr} {y v:V} {u r:Value} {o:Option V} {A:Around} {E:Value->Shared->Prop}
theorem Inv.big (I:Inv X pins σ H s):sysModules<s.heap.objs.size:=by
 have h:mainGlobals<s.heap.objs.size:=(I.mod.glob.keeps I.bk).lt;exact Nat.lt_trans (by decide) h
theorem Ev {Q:Value->Shared->Prop} (hu:A.units+1<cLine) (I:Inv X pins σ H s) (g:DGet H a y o) (ry:RelV y u) (h:∀ s',Inv X pins σ H s'->Q (.bool o.isSome) s') :
   wpAny (model X.prog X.w) A (compareOp .In u (.ref a)) Q E s:=by
 rcases g with ⟨kvs,k,e,ey,l⟩|⟨kvs,k,b,e,ey,eb,l⟩
 . subst ey;obtain ⟨z,hd,vs,rel,dd⟩:=t8 I.hok e;refine wpAny_in_of (rD ry) hd dd.mapOf ?_;rw [<- (rel.val k).isSome_eq,<- l];exact h _ (I.tok _)
 . subst ey;cases (show u=Value.ref b from ry);obtain ⟨z,hd,xs,rel,dd⟩:=xT I.hok e;refine wpAny_in_heap (tupleKind_room_in1 hu) (rB I.hok eb) hd dd ?_;have q:=(rel.val k).isSome_eq;rw [Option.isSome_map] at q;rw [<- q,<- l];exact h _ (I.tok _)
theorem CG {Q:Value->Shared->Prop} (hu:A.units+1<cLine) (I:Inv X pins σ H s) (g:DGet H a y o) (ry:RelV y u) (h:∀ s',Inv X pins σ H s'->Q (.bool (!o.isSome)) s') :
   wpAny (model X.prog X.w) A (compareOp .NotIn u (.ref a)) Q E s:=by
 rcases g with ⟨kvs,k,e,ey,l⟩|⟨kvs,k,b,e,ey,eb,l⟩
 . subst ey;obtain ⟨z,hd,vs,rel,dd⟩:=t8 I.hok e;refine wpAny_notIn_of (rD ry) hd dd.mapOf ?_;rw [<- (rel.val k).isSome_eq,<- l];exact h _ (I.tok _)
 . subst ey;cases (show u=Value.ref b from ry);obtain ⟨z,hd,xs,rel,dd⟩:=xT I.hok e;refine wpAny_notIn_heap (tupleKind_room_in1 hu) (rB I.hok eb) hd dd ?_;have q:=(rel.val k).isSome_eq;rw [Option.isSome_map] at q;rw [<- q,<- l];exact h _ (I.tok _)
theorem sv {h':Heap} {t':Nat} {ob:HO} (I:Inv X pins σ H s) (mu:Mut (H a)) (hs:Heap.SameBut a s.heap h') (he:∃ q,h'.get? a=some q) (new:ObjOk X.prog X.w (upd H a ob) h' a ob) :
   Inv X pins σ (upd H a ob) { s with heap:=h',toks:=t' } :=
 I.write (x:=a) (e:=a) mu (.inl rfl) (fun b q hb z=>(hs.2 b hb).trans z) he new
theorem yC {P:Program} {w:World} {H':Hp} {h':Heap} {kvs:List (Key × V)} {vs:List (Key × Value)} (z:kvs.length<=sizeLine) (hd:(a == sysModules)=false) (rel:KV kvs vs) (dd:h'.DictOf (b9 P w) a vs) :
   ObjOk P w H' h' a (.dK kvs):=⟨z,hd,vs,rel,dd⟩
theorem yL {H':Hp} {Q:Unit->Shared->Prop} (hu:A.units+1<cLine) (I:Inv X pins σ H s) (g:DPut H a y v H') (ry:RelV y u) (rv:RelV v r) (h:∀ s',Inv X pins σ H' s'->Q () s') :
   wpAny (model X.prog X.w) A (setItem (.ref a) u r) Q E s:=by
 rcases g with ⟨kvs,k,e,ey,l,eH⟩|⟨kvs,k,b,e,ey,eb,l,eH⟩
 . subst ey eH;obtain ⟨z,hd,vs,rel,dd⟩:=Ca I.hok e;have hz:vs.length<=sizeLine:=by rw [<- rel.length];exact z
   have hl:(dR kvs k v).length<=sizeLine:=by have:=kj kvs k v;omega
   refine wpAny_setItem_pairs (hsz:=hz) (rD ry) dd fun h' dd' hs=>h _ ?_;have he:∃ q,h'.get? a=some q:=let ⟨q,_,_,hq,_⟩:=dd';⟨q,hq⟩;exact sv I (by rw [e];exact True.intro) hs he (yC hl hd (rel.put k rv) dd')
 . subst ey eH;cases (show u=Value.ref b from ry);obtain ⟨z,hd,xs,rel,dd⟩:=D8 I.hok e;have hz:xs.length<=sizeLine:=by rw [<- Paired.length rel];exact z
   have hl:(dR kvs k v).length<=sizeLine:=by have:=kj kvs k v;omega
   refine wpAny_setItem_heap (hsz:=hz) (tupleKind_room_in1 hu) (rB I.hok eb) dd fun h' dd' hs=>h _ ?_;obtain ⟨q,es,ep,hq,h2,h3,h4,_,h5⟩:=dd';refine sv I (by rw [e];exact True.intro) hs ⟨q,hq⟩ ⟨hl,hd,_,(rel.put k eb rv).keeps fun c ys ec=>?_,q,es,ep,hq,h2,h3,h4,h5⟩;rw [ao (pz ec e (fun z=>nomatch z))];exact ec
end
section
variable {X:Cx} {pins:List (Addr × Obj)} {σ:St} {H:Hp} {s:Shared} {a:Addr} {kvs:List (Key × V)} {k:Key} {u:Value} {A:Around} {E:Value->Shared->Prop}
theorem Eh {Q:Value->Shared->Prop} (I:Inv X pins σ H s) (e:Rd H a (.dK kvs)) (h:∀ t s',Inv X pins σ H s'->Q (.int kvs.length t) s'):wpAny (model X.prog X.w) A (call (.builtin "len") [.ref a]) Q E s:=by
 obtain ⟨z,hd,vs,rel,dd⟩:=t8 I.hok e;refine call_len_dict hd dd (by rw [<- rel.length];rw [sizeLine_eq] at z;omega) ?_;rw [<- rel.length];exact h _ _ (I.tok _)
end
def Co (td ty:TE):TE:=fun σ H Q=>td σ H fun x H1=>ty σ H1 fun y H2=>∃ a v,x=.ref a/\DGet H2 a y (some v)/\Q v H2
def B0 (ty td:TE):TE:=fun σ H Q=>ty σ H fun y H1=>td σ H1 fun x H2=>∃ a o,x=.ref a/\DGet H2 a y o/\Q (.bl o.isSome) H2
def sd (ty td:TE):TE:=fun σ H Q=>ty σ H fun y H1=>td σ H1 fun x H2=>∃ a o,x=.ref a/\DGet H2 a y o/\Q (.bl (!o.isSome)) H2
def xA (td ty tv:TE):TS:=fun D σ H=>tv σ H fun v H1=>td σ H1 fun x H2=>ty σ H2 fun y H3=>∃ a H4,x=.ref a/\DPut H3 a y v H4/\D.nx σ H4
section
variable {X:Cx} {o i e value:Expr} {pos pos' tpos:Pos} {td ty tv:TE}
theorem zo (hu:X.A.units+1<cLine) (hi:PE X i ty) (ho:PE X o td):PC X .In i o (B0 ty td):=by
 intro pins s σ H Q I h;refine bd (hi pins s σ H _ I h) fun iv s1 y H1 I1 ry q1=>bd (ho pins s1 σ H1 _ I1 q1) fun u s2 x H2 I2 rx ⟨a,ov,ex,g,q2⟩=>?_;subst ex;obtain rfl:u=Value.ref a:=rx;exact Ev hu I2 g ry fun s3 I3=>⟨.bl ov.isSome,H2,I3,rfl,q2⟩
theorem yY (hu:X.A.units+1<cLine) (hi:PE X i ty) (ho:PE X o td):PC X .NotIn i o (sd ty td):=by
 intro pins s σ H Q I h;refine bd (hi pins s σ H _ I h) fun iv s1 y H1 I1 ry q1=>bd (ho pins s1 σ H1 _ I1 q1) fun u s2 x H2 I2 rx ⟨a,ov,ex,g,q2⟩=>?_;subst ex;obtain rfl:u=Value.ref a:=rx;exact CG hu I2 g ry fun s3 I3=>⟨.bl (!ov.isSome),H2,I3,rfl,q2⟩
theorem sF (hu:X.A.units+1<cLine) (ho:PE X o td) (hi:PE X i ty) (hv:PE X value tv) (hs:swapsWith value (some (.Subscript o i pos')) pos.line X.env=pure false) :
   PS X (.Assign [.Subscript o i pos'] value pos) (xA td ty tv):=by
 intro pins s σ H D I h;refine wpAny_Assign_Subscript (bd (hv pins s σ H _ I h) fun r s1 v H1 I1 rv q1=>bd (ho pins s1 σ H1 _ I1 q1) fun u s2 x H2 I2 rx q2=>bd (hi pins s2 σ H2 _ I2 q2) fun iv s3 y H3 I3 ry ⟨a,H4,ex,g,q3⟩=>?_) hs;subst ex;obtain rfl:u=Value.ref a:=rx;exact yL hu I3 g ry rv fun s4 I4=>⟨σ,H4,I4,q3⟩
end
theorem BR {P:Program} {w:World} {H:Hp} (h:Heap) (hb:sysModules<h.objs.size):ObjOk P w H (h.push { cls:=.type "dict",data:=.dict #[] }) h.objs.size (.dK []) :=
 ⟨Nat.zero_le _,beq_eq_false_iff_ne.mpr (Ne.symm (Nat.ne_of_lt hb)),[],.nil,Heap.DictOf.new h⟩
def yw:TE:=fun _ H Q=>∀ p,H p=none->Q (.ref p) (upd H p (.dK []))
def yy:TE:=fun _ H Q=>∀ p,H p=none->Q (.ref p) (upd H p (.dT []))
section
variable {X:Cx} {pos:Pos}
end
def kJ:List (TE × TE)->St->Hp->(List (V × V)->Hp->Prop)->Prop
 | [],_,H,Q=>Q [] H
 | (tk,tv)::r,σ,H,Q=>tk σ H fun x H1=>tv σ H1 fun y H2=>kJ r σ H2 fun ps H3=>Q ((x,y)::ps) H3
abbrev VV:List (V × V)->List (Value × Value)->Prop:=Paired fun p q=>RelV p.1 q.1/\RelV p.2 q.2
def PPs (X:Cx) (pos:Pos) (keys:List (Option Expr)) (values:List Expr) (trs:List (TE × TE)):Prop :=
 ∀ (pins:List (Addr × Obj)) (s:Shared) (σ:St) (H:Hp) (Q:List (V × V)->Hp->Prop),Inv X pins σ H s->kJ trs σ H Q ->
   wpAny (model X.prog X.w) X.A (evalPairs (pairTrees keys values X.env pos)) (fun vs s'=>∃ ps H',Inv X pins σ H' s'/\VV ps vs/\Q ps H') X.xe s
theorem xb {X:Cx} {pos:Pos}:PPs X pos [] [] []:=fun pins s σ H Q I h=>pairTrees_nil_walk ⟨[],H,I,.nil,h⟩
theorem uz {X:Cx} {pos:Pos} {k v:Expr} {ks:List (Option Expr)} {vs:List Expr} {tk tv:TE} {trs:List (TE × TE)} (hk:PE X k tk) (hv:PE X v tv) (hr:PPs X pos ks vs trs) :
   PPs X pos (some k::ks) (v::vs) ((tk,tv)::trs):=fun pins s σ H Q I h =>
 pairTrees_cons_walk (bd (hk pins s σ H _ I h) fun u s1 x H1 I1 rx q1=>bd (hv pins s1 σ H1 _ I1 q1) fun w2 s2 y H2 I2 ry q2 =>
   thn (hr pins s2 σ H2 _ I2 q2) fun ws s3 ⟨ps,H3,I3,rel,q3⟩=>⟨(x,y)::ps,H3,I3,.cons ⟨rx,ry⟩ rel,q3⟩)
def jA (kvs more:List (Key × V)):List (Key × V):=more.foldl (fun acc kv=>dR acc kv.1 kv.2) kvs
theorem KV.merge:∀ {more:List (Key × V)} {rs:List (Key × Value)} {kvs:List (Key × V)} {vs:List (Key × Value)},KV more rs->KV kvs vs->KV (jA kvs more) (merged vs rs):=by
 intro more rs kvs vs r;unfold KV at r
 induction r generalizing kvs vs with
 | nil=>intro q;exact q
 | @cons p q ps qs h t ih =>
   intro r0;have e:KV (dR kvs p.1 p.2) (stored vs q.1 q.2):=by
     have:=r0.put p.1 h.2;rw [<- h.1];exact this
   exact ih e
theorem nJ:∀ (more kvs:List (Key × V)),(jA kvs more).length<=kvs.length+more.length
 | [],kvs=>by show kvs.length<=kvs.length+0;omega
 | p::r,kvs=>by
   have h1:=nJ r (dR kvs p.1 p.2);have h2:=kj kvs p.1 p.2;show (jA (dR kvs p.1 p.2) r).length<=_;rw [List.length_cons];omega
theorem q9 {P:Program} {w:World}:∀ {kvs:List (Key × V)} {ws:List (Value × Value)},VV (kvs.map fun kv=>(kV kv.1,kv.2)) ws->∃ rs,Carries (b9 P w) ws rs/\KV kvs rs
 | [],_,r=>by rw [List.map_nil] at r;cases r;exact ⟨[],True.intro,.nil⟩
 | p::kvs,_,r=>by
   rw [List.map_cons] at r;cases r with
   | @cons a b as bs h t =>
     obtain ⟨rs,c,q⟩:=q9 (P:=P) (w:=w) t;obtain ⟨b1,b2⟩:=b;exact ⟨(p.1,b2)::rs,⟨rD h.1,rfl,c⟩,.cons ⟨rfl,h.2⟩ q⟩
def xD (trs:List (TE × TE)):TE:=fun σ H Q=>∀ p,H p=none->kJ trs σ (upd H p (.dK [])) fun ps H2=>H2 p=some (.dK [])/\∃ kvs:List (Key × V),ps=kvs.map (fun kv=>(kV kv.1,kv.2))/\kvs.length<=15/\Q (.ref p) (upd H2 p (.dK (jA [] kvs)))
theorem xn {X:Cx} {pos:Pos} {keys:List (Option Expr)} {values:List Expr} {trs:List (TE × TE)} (h:PPs X pos keys values trs) (hall:keys.all (·.isSome)=true) (hl:keys.length=values.length) (h0:keys≠[])
   (h15:keys.length<=15):PE X (.Dict keys values pos) (xD trs):=by
 intro pins s σ H Q I q;have hn:=I.hok.fresh (Nat.le_refl s.heap.objs.size);have I1:=I.laid (a:=s.heap.objs.size) (o:=.dK []) (h':=s.heap.push { cls:=.type "dict",data:=.dict #[] }) (t':=s.toks) (fun _ _ q=>Heap.get?_push_of_some _ q) (Nat.le_refl _) (BR s.heap I.big);refine wpAny_Dict_walk (knd:=b9 X.prog X.w) hall hl h0 h15 (thn (h pins _ σ _ _ I1 (q _ hn)) fun ws s2 ⟨ps,H2,I2,rel,e,kvs,ep,lk,q2⟩=>?_);subst ep;obtain ⟨rs,c,rk⟩:=q9 (P:=X.prog) (w:=X.w) rel;obtain ⟨z,hd,vs0,r0,dd⟩:=Ca I2.hok e;cases r0;refine ⟨rs,c,dd,fun h' dd' hs=>⟨.ref s.heap.objs.size,_,?_,rfl,q2⟩⟩;have hz:(jA [] kvs).length<=sizeLine:=by
   have h1:=nJ kvs [];rw [List.length_nil] at h1;rw [sizeLine_eq];omega
 have he:∃ q,h'.get? s.heap.objs.size=some q:=let ⟨q,_,_,hq,_⟩:=dd';⟨q,hq⟩;exact sv I2 (by rw [e];exact True.intro) hs he (yC hz hd (rk.merge .nil) dd')
section
variable {X:Cx} {pins:List (Addr × Obj)} {σ:St} {H:Hp} {s:Shared} {a:Addr} {y d:V} {u r:Value} {o:Option V} {A:Around} {E:Value->Shared->Prop}
end
section
variable {X:Cx} {o e f:Expr} {apos cpos:Pos} {td ty tx:TE}
end
section
variable {X:Cx} {pins:List (Addr × Obj)} {σ:St} {H:Hp} {s:Shared} {a:Addr} {kvs:List (Key × V)} {A:Around} {E:Value->Shared->Prop}
end
section
variable {X:Cx} {pins:List (Addr × Obj)} {σ:St} {H:Hp} {s:Shared} {a:Addr} {y:V} {u:Value} {A:Around} {E:Value->Shared->Prop}
end
end L2
namespace Att
open PySem PySem.W PySem.Calls PyProof.Rows
theorem qU {P:Params} {h:Heap}:∀ (ns:List Int) (vs:List Value),WellAll P h vs (ns.map WData.int)->IntsAre vs ns:=by
 intro ns
 induction ns with
 | nil =>
   intro vs w;rw [List.map_nil] at w;cases w;exact .nil
 | cons n ns ih =>
   intro vs w;rw [List.map_cons] at w;cases w with
   | cons a b =>
     cases a;exact .cons _ _ (ih _ b)
theorem yM {l:OpenLaw} {n:Nat} (hn:l.most=some n) {P:Params} {h:Heap} {args:List WData} {vals:List Value}
   (hpre:l.row.toRowW.claim.pre args=true) (hwl:WellAll P h vals args) :
   ∃ a vs ns,vals=[Value.ref a]/\args=[WData.list (ns.map WData.int)]/\h.get? a=some { cls:=.type "list",data:=.seq vs.toArray }/\IntsAre vs ns/\ns.length<=n:=by
 have hsh:WShape.hasAll [] args [.list .int]=true:=(pre_splitW hpre).1;have hc:l.pre.holds [] { args:=args }=true:=(pre_splitW hpre).2;obtain ⟨d,r,rfl,h1,h2⟩:=hasAllW_cons hsh;obtain rfl:=hasAllW_nil h2;obtain ⟨xs,rfl,h3⟩:=hasW_list h1;obtain ⟨ns,rfl⟩:=items_int h3;have hlen:ns.length<=n:=by
   unfold OpenLaw.pre at hc;have h4:(WTm.not (.lt (.lit (.int (n:Int))) (.len (.arg 0)))).holds [] { args:=[.list (ns.map .int)] }=true:=by
     have h4:=(holds_andW hc).1;rw [hn] at h4;exact h4
   have h5:=condW_of h4 (w_not (w_lt w_lit (w_len_list (w_arg rfl))));rw [List.length_map] at h5;refine Nat.le_of_not_lt fun q=>?_;have q':(n:Int)<((ns.length:Nat):Int):=by omega
   first
     | (rw [decide_eq_true q'] at h5;exact absurd h5 (by decide))
     | (simp at h5;omega)
 cases hwl with
 | cons w1 w2 =>
   cases w2;cases w1 with
   | list ho hall=>exact ⟨_,_,ns,rfl,rfl,ho,qU ns _ hall,hlen⟩
theorem zh (l:OpenLaw) (args:List WData):l.row.toRowW.claim.post args (.bool true) args=true :=
 postW_of (r:=l.row.toRowW) (X:=(true == true))
   (show WShape.has [] (.bool true) .bool=true by first|rfl|decide|simp [WShape.has,WShape.arms,WShape.armsAll])
   (show (WTm.eq .res (.lit (.bool true))).value [] { args:=args,res:=some (.bool true),after:=args }=some (.bool (true == true)) from w_eq_bool (w_res rfl) w_lit) rfl
theorem attach_call {l:OpenLaw} {n:Nat} {q:Program} {loose:List Str} {XP:(Str->Option Value)->Heap->Prop} {YP:World->Heap->Prop} {d:DefRec}
   (hn:l.most=some n) (hdf:d.params.defaults=[])
   (call:∀ (w:World) (s₀ s₁:Shared) (mg mb:Str->Option Value) (fa:Addr) (o:Obj) (pm cd doc:Value) (a:Addr) (vs:List Value) (ns:List Int),
     Ground q loose [] XP w s₀ mg mb s₁.heap->YP w s₁.heap ->
     s₁.heap.get? fa=some o->o.data=.func (docDef d.name d.params d.body d.scope pm cd doc)->s₁.heap.CodeRec cd d.name->mg d.name=some (.ref fa) ->
     s₁.heap.get? a=some { cls:=.type "list",data:=.seq vs.toArray }->IntsAre vs ns->ns.length<=n->s₁.gens=#[] ->
     codeAny (model l.prog w) callerA (.call (.ref fa) ⟨[.ref a],[]⟩) (fun r s'=>r=.ok (.ret (.bool true))/\OldK s₁.heap s'.heap/\s'.os=s₁.os/\AllBare s'.gens) s₁) :
   WalkO q loose XP YP l.row.toRowW d [] (fun f vs=>PySem.call f vs):=by
 intro w s₀ s₁ mg mb G Y fa o pm cd doc dV kV ho hd hcd hD hmg hg args vals as hpre hlay hrd hwl hlo;obtain rfl:dV=.none:=Dflts.none hD hdf;obtain rfl:kV=.none:=Dflts.noKw hD;obtain ⟨a,vs,ns,rfl,rfl,hobj,hints,hlen⟩:=yM hn hpre hwl;refine enter_call (codeAny_mono (call w s₀ s₁ mg mb fa o pm cd doc a vs ns G Y ho (fd_plain hd) hcd hmg hobj hints hlen hg) fun r s' hq=>?_);obtain ⟨rfl,h2,h3,h4⟩:=hq;exact ⟨.inl ⟨.bool true,.bool true,[],rfl,fun _=>rfl,.bool true,zh l _,fun _=>⟨List.Pairwise.nil,fun _ hm=>(nomatch hm)⟩⟩,h2,h3,h4⟩
section
variable {prog:Program} {w:World} {A:Around} {E:Value->Shared->Prop} {s:Shared} {K:Frag}
end
end Att
namespace L2
open PySem PySem.Spec PyProof.Rows
theorem sU:∀ {vs:List Value} {ns:List Int},IntsAre vs ns->Vals (ns.map V.int) vs
 | _,_,.nil=>.nil
 | _,_,.cons n t h=>.cons ⟨t,rfl⟩ (sU h)
def Be (H:Hp):Prop:=∀ b,H b=none\/∃ o xs,H b=some (.frz o (.lst xs))
theorem AG {P:Program} {w:World} {K:PySem.W.Frag} {mg mb:Str->Option Value} {CX:CXT} {k:Nat} {fa a:Addr} {fd:FuncData} {x:Str} {sp:Sp} {s₁:Shared} {vs:List Value} {ns:List Int}
   (KX:K.In s₁.heap) (hns:s₁.heap.Ns mainGlobals mg) (hb:s₁.heap.Ns builtinsNs mb) (hbb:∀ x:Str,x≠"__name__"->mb x=bootBuiltins x) (hlim:s₁.heap.NoLimit) (hg:s₁.gens=#[])
   (ha:s₁.heap.get? a=some { cls:=.type "list",data:=.seq vs.toArray }) (hi:IntsAre vs ns) (hl:ns.length<=sizeLine) (hr:Room k callerA)
   (F:∀ base:Heap,K.In base->base.Ns mainGlobals mg->FnOk P w K mg base CX k fa fd [x] sp) (hbind:∀ (s:Shared) (u:Value),BindsTo s fd ⟨[u],[]⟩ [(x,u)])
   (hsp:∀ H:Hp,Be H->SqL K H a (ns.map V.int)->sp [.ref a] H (fun v _=>v=.bl true) fun _ _ _=>False)
   (hCX:∀ H e s',CX [] H s₁ (fun _ _ _=>False) e s'->False) :
   codeAny (model P w) callerA (.call (.ref fa) ⟨[.ref a],[]⟩) (fun r s'=>r=.ok (.ret (.bool true))/\OldK s₁.heap s'.heap/\s'.os=s₁.os/\AllBare s'.gens) s₁:=by
 have rv:=sU hi;have lenV:=hi.length;have core:∀ H:Hp,Be H->SqL K H a (ns.map V.int)->HOk P w H s₁.heap->(∀ b,H b≠none->b=a)->(H a≠none->K.lookup a=none) ->
     codeAny (model P w) callerA (.call (.ref fa) ⟨[.ref a],[]⟩) (fun r s'=>r=.ok (.ret (.bool true))/\OldK s₁.heap s'.heap/\s'.os=s₁.os/\AllBare s'.gens) s₁:=by
   intro H hO hS hok hA hK;have base_of:∀ {b:Addr} {o:Obj},s₁.heap.get? b=some o->H b=none->(lu s₁.heap H).get? b=some o:=fun e n=>Af e n;have noA:∀ {b:Addr} {o:Obj} {es:Array DictEntry} {ep:Nat},s₁.heap.get? b=some o->o.data=.dict es ep->H b=none:=fun {b o es ep} e d=>by
     cases q:H b with
     | none=>rfl
     | some u =>
       have e':b=a:=hA b (by rw [q];simp);subst e';rw [ha] at e;cases e;have d':Data.seq vs.toArray _=Data.dict es ep:=d;cases d'
   have nsK:∀ {b:Addr} {m:Str->Option Value},s₁.heap.Ns b m->(lu s₁.heap H).Ns b m:=fun {b m} ⟨o,es,ep,e,d,r⟩=>⟨o,es,ep,base_of e (noA e d),d,r⟩;have hKb:K.In (lu s₁.heap H):=fun b o e=>base_of (KX b o e) (by
     cases q:H b with
     | none=>rfl
     | some u =>
       have e':b=a:=hA b (by rw [q];simp);subst e';rw [hK (by rw [q];simp)] at e;cases e)
   have hM:Mod K mg (lu s₁.heap H):=⟨hKb,nsK hns,⟨mb,nsK hb,hbb⟩,let ⟨mc,h1,h2⟩:=hlim;⟨mc,nsK h1,h2⟩⟩;have e0:Env0 P w K mg (lu s₁.heap H) callerA [] s₁ H:=⟨rfl,hM,fun b o e=>Cz e,Nat.le_of_eq (y6 _ _),trivial,fun b hb=>absurd (show b∈([]:List Addr) from hb) (by simp),hok,.of_eq hg⟩;refine codeAny_mono ((F _ hKb (nsK hns)).run callerA [] s₁ H ⟨[.ref a],[]⟩ [.ref a] [.ref a] _ _ hr e0 (hbind s₁ (.ref a)) (.cons rfl .nil) (hsp H hO hS)) fun r s' h=>?_;cases r with
   | error e=>exact (hCX H e s' h).elim
   | ok fl =>
     cases fl with
     | next=>exact False.elim h
     | brk=>exact False.elim h
     | cont=>exact False.elim h
     | ret u =>
       obtain ⟨v,H',os,bare,un,hok',r',q⟩:=h;have q':v=.bl true:=q;subst q';obtain rfl:u=Value.bool true:=r';refine ⟨rfl,OldK.of_keep fun b o e=>?_,os,bare⟩;cases q:H b with
       | none=>exact un.keep b o e q (by intro z;exact absurd (show b∈([]:List Addr) from z) (by simp)) (by simp)
       | some u =>
         rcases hO b with z|⟨ob,xs,z⟩
         . rw [q] at z;cases z
         . have z2:=un.frzs b ob _ z;obtain ⟨e1,_⟩:=hok b _ z;obtain ⟨e2,_⟩:=hok' b _ z2;rw [e] at e1;cases e1;exact e2
 cases hk:K.lookup a with
 | some o =>
   have e:=KX a o hk;rw [ha] at e;cases e;refine core (fun _=>none) (fun _=>.inl rfl) (.inr ⟨_,vs.toArray,_,hk,rfl,rfl,rfl,by rw [List.size_toArray,lenV];exact hl,by simpa using rv⟩) (fun b u z=>by have z':(none:Option HO)=some u:=z;cases z') (fun b z=>absurd rfl z) fun z=>absurd rfl z
 | none =>
   refine core (fun b=>if b=a then some (.frz { cls:=.type "list",data:=.seq vs.toArray } (.lst (ns.map V.int))) else none) (fun b=>?_) (.inl (.inr ⟨{ cls:=.type "list",data:=.seq vs.toArray },if_pos rfl⟩)) (fun b u z=>?_) (fun b z=>?_) fun _=>hk
   . by_cases hb:b=a
     . exact .inr ⟨_,_,if_pos hb⟩
     . exact .inl (if_neg hb)
   . by_cases hb:b=a
     . have z':=(if_pos hb).symm.trans z;cases z';subst hb;exact ⟨ha,by rw [List.length_map];exact hl,vs,_,rv,ha⟩
     . have z':=(if_neg hb).symm.trans z;cases z'
   . by_cases hb:b=a
     . exact hb
     . exact absurd (if_neg hb) z
end L2
namespace L2
open PySem PySem.Spec PyProof.Rows
theorem walk_of {l:PySem.W.OpenLaw} {n k:Nat} {q:Program} {loose:List Str} {XP:(Str->Option Value)->Heap->Prop} {YP:World->Heap->Prop} {d:DefRec} {K:Params->PySem.W.Frag} {CX:World->CXT} {sp:World->Sp} {x:Str}
   (hn:l.most=some n) (hn2:n<=sizeLine) (hdf:d.params.defaults=[]) (hr:Room k callerA)
   (hY:∀ (w:World) (h:Heap),YP w h->(K w.params).In h)
   (F:∀ (w:World) (mg:Str->Option Value) (fa:Addr) (h:Heap),(K w.params).In h->h.Ns mainGlobals mg->mg d.name=some (.ref fa) ->
     ∃ fd:FuncData,(∀ (s:Shared) (u:Value),BindsTo s fd ⟨[u],[]⟩ [(x,u)]) /\
       ∀ base:Heap,(K w.params).In base->base.Ns mainGlobals mg->FnOk l.prog w (K w.params) mg base (CX w) k fa fd [x] (sp w))
   (hsp:∀ (w:World) (H:Hp) (a:Addr) (ns:List Int),ns.length<=n->Be H->SqL (K w.params) H a (ns.map V.int)->sp w [.ref a] H (fun v _=>v=.bl true) fun _ _ _=>False)
   (hCX:∀ (w:World) (H:Hp) (s:Shared) (e:Value) (s':Shared),CX w [] H s (fun _ _ _=>False) e s'->False) :
   PySem.W.WalkO q loose XP YP l.row.toRowW d [] (fun f vs=>PySem.call f vs):=by
 refine Att.attach_call hn hdf fun w s₀ s₁ mg mb fa o pm cd doc a vs ns G Y ho hd hcd hmg hobj hints hlen hg=>?_;have KX:=hY w _ Y;obtain ⟨fd,hb,hF⟩:=F w mg fa _ KX G.T.g hmg;exact AG KX G.T.g G.T.b G.T.builtins G.T.nolimit hg hobj hints (Nat.le_trans hlen hn2) hr hF hb (fun H hO hS=>hsp w H a ns hlen hO hS) fun H e s'=>hCX w H s₁ e s'
end L2
namespace L2
open PySem PySem.Spec PyProof.Rows
def CB (s:Stmt) (j:Nat):Stmt:=match s with
 | .ClassDef _ _ _ body _ _ _ _ _ _ _=>body.getD j (.Pass ⟨0,0,0,0⟩)
 | _=>.Pass ⟨0,0,0,0⟩
def aX (s:Stmt):Arguments:=match s with
 | .FunctionDef _ a _ _ _ _ _ _ _ _=>a
 | _=>{ posonlyargs:=[],args:=[],vararg:=none,kwonlyargs:=[],kw_defaults:=[],kwarg:=none,defaults:=[] }
def aL (s:Stmt):List Stmt:=match s with
 | .FunctionDef _ _ b _ _ _ _ _ _ _=>b
 | _=>[]
def af (s:Stmt):Scope:=match s with
 | .FunctionDef _ _ _ _ _ _ sc _ _ _=>sc
 | _=>{ kind:=.function,names:=[],isGenerator:=false,isCoroutine:=false }
abbrev CX0:CXT:=fun _ _ _ _ _ _=>False
abbrev E0:XK:=fun _ _ _=>False
structure Fun (K:PySem.W.Frag) (x qual:Str) (st:Stmt) (f:Addr) (fd:FuncData):Prop where
 ex:∃ (oc:Value) (od:Option Addr) (kV doc pm:Value) (an:Option Addr) (cdv ct:Value) (osl:Array (Option Value)),
   fd=PySem.W.fnOf x qual (aX st) (aL st) (af st) .none kV doc pm an cdv ct/\K.lookup f=some ⟨oc,od,.func fd,osl⟩/\PySem.W.codeIn K cdv qual=true
 kp:PySem.W.keepIn K (.ref f)=true
section
variable {P:Program} {w:World} {K:PySem.W.Frag} {mg:Str->Option Value} {base:Heap}
theorem Fun.binds {x qual:Str} {st:Stmt} {f:Addr} {fd:FuncData} {ps:List Str} (F:Fun K x qual st f fd)
   (h:∀ (kV doc pm:Value) (an:Option Addr) (cdv ct:Value) (us:List Value),us.length=ps.length->bindArgs (PySem.W.fnOf x qual (aX st) (aL st) (af st) .none kV doc pm an cdv ct) ⟨us,[]⟩=pure (ps.zip us)):Binds K fd ps []:=by
 obtain ⟨oc,od,kV,doc,pm,an,cdv,ct,osl,rfl,lk,hcd⟩:=F.ex;exact .all (h kV doc pm an cdv ct)
theorem bG {x qual:Str} {st:Stmt} {f:Addr} {oc:Value} {od an:Option Addr} {osl:Array (Option Value)} {kV doc pm cdv ct:Value} (l:K.lookup f=some ⟨oc,od,.func (PySem.W.fnOf x qual (aX st) (aL st) (af st) .none kV doc pm an cdv ct),osl⟩)
   (c:PySem.W.codeIn K cdv qual=true) (k:PySem.W.keepIn K (.ref f)=true):Fun K x qual st f (PySem.W.fnOf x qual (aX st) (aL st) (af st) .none kV doc pm an cdv ct):=⟨⟨oc,od,kV,doc,pm,an,cdv,ct,osl,rfl,l,c⟩,k⟩
end
theorem Cf {A:Around} {k:Nat} (hr:Room k A):A.units+1<cLine:=Nat.lt_of_le_of_lt (Nat.add_le_add_left (by decide:1<=64) _) hr.units
section
variable {X:Cx}
theorem pv (i:Nat) {x:Str} {pos:Pos} (hN:X.N[i]?=some x:=by rfl) (hv:Vis X.env.scope x:=by first|exact Or.inl rfl|exact Or.inr (Or.inl rfl)|exact Or.inr (Or.inr rfl)) (hd:(x == ("__debug__":Str))=false:=by decide)
   (hcd:(x == ("__classdict__":Str))=false:=by decide):PE X (.Name x pos) (uo i):=yx hN hv hd hcd
end
theorem En {A B:Prop} (h:B):if false=true then A else B:=by
 rw [if_neg Bool.false_ne_true];exact h
theorem Ex {A B:Prop} (h:A):if true=true then A else B:=by
 rw [if_pos rfl];exact h
def Same (H H':Hp):Prop:=∀ b o,H b=some o->H' b=some o
theorem Same.refl (H:Hp):Same H H:=fun _ _ h=>h
theorem Same.trans {H H1 H2:Hp} (a:Same H H1) (b:Same H1 H2):Same H H2:=fun c o h=>b c o (a c o h)
theorem Same.free {H H':Hp} (e:Same H H') {l:Addr} (h:H' l=Option.none):H l=Option.none:=by
 cases q:H l with
 | none=>rfl
 | some o =>
   rw [e l o q] at h;cases h
theorem Same.seq {K:PySem.W.Frag} {H H':Hp} {a:Addr} {xs:List V} (e:Same H H') (h:SqL K H a xs):SqL K H' a xs:=by
 rcases h with (h|⟨o,h⟩)|h
 . exact .inl (.inl (e _ _ h))
 . exact .inl (.inr ⟨o,e _ _ h⟩)
 . exact .inr h
end L2
namespace L2
open PySem PySem.Spec PyProof.Rows
section
variable {X:Cx}
theorem tj:gN X (.builtin "len") (fun xs H Q=>∃ a kvs,xs=[V.ref a]/\H a=some (.dK kvs)/\Q (.int kvs.length) H):=by
 intro pins s σ H xs us Q I r h;obtain ⟨a,kvs,rfl,ha,q⟩:=h;obtain ⟨u,rfl,ru⟩:=pk r;cases ru;exact Eh I (.inl ha) fun t s' I'=>⟨.int kvs.length,H,I',⟨t,rfl⟩,q⟩
end
section
variable {κ:Type} [DecidableEq κ]
end
end L2
set_option Elab.async false
set_option linter.all false
set_option maxRecDepth 100000
namespace L2
open PySem PySem.Spec PyProof.Rows
def Cx.comp (X:Cx) (Nc:List Str) (scope:Scope) (cl:List (Str × Addr)) (C:Addr) (s₂:Shared) (H₁:Hp) (fp:List Addr):Cx where
 prog:=X.prog
 w:=X.w
 K:=X.K
 mg:=X.mg
 base:=X.base
 A:=X.A
 N:=Nc
 s₀:=s₂
 H₀:=H₁
 env:=compEnvC scope cl C X.env
 outer:=X.stack
 stack:=X.stack
 ex:=fp
 fn:=fun _=>false
 calm:=X.calm
 pn:=[]
 xe:=fun _ _=>False
structure CompTxt (X:Cx) (Nc:List Str) (own:Nat) (js:List Nat) (scope:Scope) (cl:List (Str × Addr)):Prop where
 clos:closureFor scope X.env=pure cl
 kind:scope.kind=.function
 nocell:∀ y∈scope.names,y.2≠.cell
 names:∀ y∈scope.names,y.2=.local->scope.names.lookup y.1=some .local
 cells:∀ x c,cl.lookup x=some c->X.env.cells.lookup x=some c
 has:∀ x,((relabel scope X.env).names.lookup x=some .cell\/(relabel scope X.env).names.lookup x=some .free)->∃ c,cl.lookup x=some c
 len:Nc.length=own+js.length
 outer:∀ i x,Nc[own+i]?=some x->∃ j,js[i]?=some j/\X.N[j]?=some x/\X.env.scope.names.lookup x=some .cell/\(relabel scope X.env).names.lookup x=some .cell
def eL (own:Nat) (js:List Nat) (σ:St):St:=List.replicate own none++js.map fun j=>(σ[j]?).getD none
def t6 (own:Nat) (js:List Nat) (wi:TI) (g:TG) (tc:TT) (te:TE):TE:=fun σ H Q=>wi σ H fun J H1=>∀ p,H1 p=none ->
 ∃ W:Nat->Nat->List V->St->Hp->Prop,(∃ m,W 0 m [] (eL own js σ) (upd H1 p (.lst [])))/\∀ i m ys σc Hc,W i m ys σc Hc ->
   (J.stop i Hc/\Q (.ref p) Hc)\/(J.go i Hc/\∀ x H',J.yld i Hc x H'->g x σc H' fun σ2 H2=>tc σ2 H2 fun b H3 =>
     if b=true then te σ2 H3 fun y H4=>H4 p=some (.lst ys)/\ys.length<sizeLine/\∃ m',m'<m/\W (i+1) m' (ys++[y]) σ2 (upd H4 p (.lst (ys++[y])))
     else ∃ m',m'<m/\W (i+1) m' ys σ2 H3)
def PTs (X:Cx) (ifs:List Expr) (t:TT):Prop :=
 ∀ (pins:List (Addr × Obj)) (s:Shared) (σ:St) (H:Hp) (Q:Bool->Hp->Prop),Inv X pins σ H s->t σ H Q ->
   wpAny (model X.prog X.w) X.A (forIn ifs true fun c r=>if r=true then do let ok <- isTrue c X.env (eval c X.env);pure (ForInStep.yield ok) else pure (ForInStep.yield r)) (TP X pins σ Q) X.xe s
def tYes:TT:=fun _ H Q=>Q true H
theorem sJ {X:Cx}:PTs X [] tYes:=fun pins s σ H Q I h=>wpAny_tests_nil ⟨H,I,h⟩
section
variable {prog:Program} {w:World} {A:Around} {E:Value->Shared->Prop} {R:Result->Shared->Prop} {s:Shared}
theorem kr {elt target iter:Expr} {ifs:List Expr} {scope:Scope} {pos:Pos} {it acc:Value} {env:Env} (I:Nat->Shared->Prop)
   (turn:∀ n s,I n s->wpAny (model prog w) A (pyNext it) (fun r s₁=>match r with
     | none=>R (.ok .next) s₁
     | some v=>wpAny (model prog w) A (letOwnedTupleGo target it v) (fun _ s₁'=>wpAny (model prog w) A (assign target env v) (fun _ s₂ =>
         wpAny (model prog w) A (forIn ifs true fun c r=>if r=true then do let ok <- isTrue c env (eval c env);pure (ForInStep.yield ok) else pure (ForInStep.yield r)) (fun ok s₃ =>
           if ok=true then wpAny (model prog w) A (eval elt env) (fun x s₄ =>
             wpAny (model prog w) A (call (.builtin "list.append") [acc,x]) (fun _ s₅=>∃ m,m<n/\I m s₅) (fun _ _=>False) s₄) (fun _ _=>False) s₃
           else ∃ m,m<n/\I m s₃) (fun _ _=>False) s₂) (fun _ _=>False) s₁') (fun _ _=>False) s₁) (fun _ _=>False) s)
   (n:Nat) (h:I n s) :
   codeAny (model prog w) A (.compLoop (.ListComp elt [⟨target,iter,ifs,0⟩] scope pos) 0 it acc env) R s:=by
 refine codeAny_loop rfl I (fun n s hI=>?_) n h;show wpAny _ A ((compTurn (.ListComp elt [⟨target,iter,ifs,0⟩] scope pos) 0 it acc env).onRaise (fun x=>do noteFrame x env;theTreesLotGoes x)) _ _ s;refine wpAny_noted ?_;rw [compTurn_list];refine wpAny_bind (wpAny_standAt (wpAny_bind (wpAny_mono (turn n s hI) (fun r s₁ h₁=>?_) fun _ _ h'=>h'.elim)));cases r with
 | none=>exact wpAny_pure h₁
 | some v =>
   refine wpAny_bind (wpAny_mono h₁ (fun _ s₁' h₁'=>?_) fun _ _ h'=>h'.elim);refine wpAny_bind (wpAny_mono h₁' (fun _ s₂ h₂=>wpAny_bind (wpAny_mono h₂ (fun ok s₃ h₃=>?_) fun _ _ h'=>h'.elim)) fun _ _ h'=>h'.elim);cases ok with
   | true =>
     rw [if_pos rfl] at h₃;simp only [if_true];exact wpAny_bind (wpAny_bind (wpAny_mono h₃ (fun x s₄ h₄=>wpAny_bind (wpAny_mono h₄ (fun _ s₅ h₅=>wpAny_pure (wpAny_pure ⟨rfl,h₅⟩)) fun _ _ h'=>h'.elim)) fun _ _ h'=>h'.elim))
   | false =>
     rw [if_neg Bool.false_ne_true] at h₃;simp only [Bool.false_eq_true,if_false]
     first
       | exact wpAny_pure ⟨rfl,h₃⟩
       | exact wpAny_bind (wpAny_pure (wpAny_pure ⟨rfl,h₃⟩))
end
end L2
set_option Elab.async false
set_option linter.all false
set_option maxRecDepth 100000
namespace L2
open PySem PySem.Spec PyProof.Rows
section
variable {X:Cx} {Nc:List Str} {own:Nat} {js:List Nat} {scope:Scope} {cl:List (Str × Addr)}
theorem pA {pins:List (Addr × Obj)} {σ:St} {H₁:Hp} {s₂:Shared} {C:Addr} {fp:List Addr} (T:CompTxt X Nc own js scope cl) (I:Inv X pins σ H₁ s₂) (hC:s₂.heap.objs.size<=C)
   (f1:∀ b∈fp,fi X pins H₁ b) (hlt:∀ b∈fp,b<s₂.heap.objs.size):(X.comp Nc scope cl C s₂ H₁ fp).Ok where
 mod:=I.ok.mod
 kind:=by show (relabel scope X.env).kind=_;exact T.kind
 glob:=I.ok.glob
 blt:=I.ok.blt
 above:=hC
 inj:=fun x y c h1 h2=>I.ok.inj x y c (T.cells x c h1) (T.cells y c h2)
 has:=fun x h=>T.has x h
 cab:=fun x c h=>by cases h
 hd:=I.ok.hd
 frames:=I.ok.frames
 stk:=.inl rfl
 exf:=fun b hb=>⟨Nat.ne_of_lt (Nat.lt_of_lt_of_le (hlt b hb) hC),fun x c h=>(f1 b hb).2.2.2.2.1 x c (T.cells x c h)⟩
 bs:=I.bs
 bsz:=Nat.le_trans I.ok.bsz I.sz
 noex:=fun b o e hb=>by
   rcases (f1 b hb).2.2.2.1 with z|z
   . exact I.ok.noex b o e z
   . exact absurd (Nat.lt_of_lt_of_le (Heap.lt_size (I.ok.bs b o e).1) z) (Nat.lt_irrefl _)
 exfs:=fun b hb hs=>by
   rcases List.mem_cons.mp (I.stkSub b hs) with z|z
   . exact (f1 b hb).2.1 z
   . exact (f1 b hb).2.2.1 z
 funs:=I.stack
 frf:=I.stkFree
theorem qx {pins:List (Addr × Obj)} {σ:St} {H₁:Hp} {s₂:Shared} {C D:Addr} {fp:List Addr} {h₁:Heap} {t:Nat} {m:Str->Option Value} (T:CompTxt X Nc own js scope cl) (I:Inv X pins σ H₁ s₂) (hC:s₂.heap.objs.size<=C)
   (hD:s₂.heap.objs.size<=D) (hDC:D≠C) (f1:∀ b∈fp,fi X pins H₁ b) (hlt:∀ b∈fp,b<s₂.heap.objs.size) (old:∀ b o,s₂.heap.get? b=some o->h₁.get? b=some o) (hns:h₁.Ns C m)
   (hacc:∃ n,h₁.get? D=some { cls:=.type "list",data:=.seq ([]:List Value).toArray n }) :
   Inv (X.comp Nc scope cl C s₂ H₁ fp) [] (eL own js σ) (upd H₁ D (.lst [])) { s₂ with heap:=h₁,toks:=t }:=by
 obtain ⟨na,hacc⟩:=hacc;have cellK:∀ c v,s₂.heap.IsCell c v->h₁.IsCell c v:=fun c v ⟨o,ho,hd⟩=>⟨o,old c o ho,hd⟩;refine ⟨pA T I hC f1 hlt,rfl,I.bare,Un.laid old hD (I.hok.fresh hD),⟨m,hns,fun i x v e1 e2 e3=>?_⟩,fun x c e=>?_,?_,fun x c e=>?_,fun p hp=>(by cases hp),I.hok.laid old hD ?_,?_⟩
 . have hN:Nc[i]?=some x:=e1;have hσ:(eL own js σ)[i]?=some (some v):=e2;unfold eL at hσ;by_cases hi:i<own
   . rw [List.getElem?_append_left (by simpa using hi),List.getElem?_replicate] at hσ;simp [hi] at hσ
   . obtain ⟨k,rfl⟩:∃ k,i=own+k:=⟨i - own,by omega⟩;rw [List.getElem?_append_right (by simp)] at hσ;simp only [List.length_replicate,Nat.add_sub_cancel_left,List.getElem?_map] at hσ;obtain ⟨j,hj,hx,hk,hr⟩:=T.outer k x hN;rw [hj] at hσ;replace hσ:some (σ[j]?.getD none)=some (some v):=hσ;have hσj:σ[j]?=some (some v):=by
       cases q:σ[j]? with
       | none=>rw [q] at hσ;simp at hσ
       | some y=>rw [q] at hσ;simpa using hσ
     obtain ⟨m0,hn0,hl0⟩:=I.loc;obtain ⟨u,ru,lk⟩:=hl0 j x v hx hσj (.inr (.inl hk));refine ⟨u,ru,.inr ⟨.inl hr,?_⟩⟩;rcases lk with ⟨z,_⟩|⟨_,c,hc,hcell⟩
     . have z':X.env.scope.names.lookup x=some .local:=z;rw [hk] at z';cases z'
     . obtain ⟨c',hc'⟩:=T.has x (.inl hr);have:=T.cells x c' hc';rw [hc] at this;cases this;exact ⟨c,hc',cellK c _ hcell⟩
 . obtain ⟨v,z⟩:=I.cell x c (T.cells x c e);exact ⟨v,cellK c v z⟩
 . show upd H₁ D (.lst []) C=none;rw [ao (Ne.symm hDC)];exact I.hok.fresh hC
 . have e':=T.cells x c e;obtain ⟨v,o,ho,_⟩:=I.cell x c e';rw [ao (Nat.ne_of_lt (Nat.lt_of_lt_of_le (Heap.lt_size ho) hD))];exact I.freeC x c e'
 . exact ⟨Nat.zero_le _,[],na,.nil,hacc⟩
 . show (eL own js σ).length=Nc.length;rw [T.len];simp [eL]
theorem oF {pins:List (Addr × Obj)} {σ σc:St} {H₁ H':Hp} {s₂ s':Shared} {C:Addr} {fp:List Addr} {h':Heap} (I:Inv X pins σ H₁ s₂) (hC:s₂.heap.objs.size<=C)
   (f1:∀ b∈fp,fi X pins H₁ b) (I':Inv (X.comp Nc scope cl C s₂ H₁ fp) [] σc H' s') (hs:Heap.SameBut C s'.heap h'):Inv X pins σ H' { s' with heap:=h' }:=by
 have u:Un (frs X.stack) fp H₁ H' s₂.heap s'.heap:=I'.base;have ne:∀ b o,s₂.heap.get? b=some o->b≠C:=fun b o e=>Nat.ne_of_lt (Nat.lt_of_lt_of_le (Heap.lt_size e) hC);have k:∀ b o,b≠C->s'.heap.get? b=some o->h'.get? b=some o:=fun b o n e=>hs.extBut b o n e;have u':Un (frs X.stack) fp H₁ H' s₂.heap h':=⟨fun b o e n hb hx=>k b o (ne b o e) (u.keep b o e n hb hx),fun b o e n hb hx=>let ⟨sl,q⟩:=u.slot b o e n hb hx;⟨sl,k b _ (ne b o e) q⟩,
   u.free,fun b o e hx=>let ⟨o',q⟩:=u.there b o e hx;⟨o',k b o' (ne b o e) q⟩,u.tups,u.frzs,u.tbls⟩
 have hfree:H' C=none:=I'.free;have hok':HOk X.prog X.w H' h':=fun a o e=>(I'.hok a o e).stay (fun b v hb q=>k b v (fun z=>by
   rcases hb with y|y
   . rw [y] at z;rw [z,hfree] at e;cases e
   . rw [z,hfree] at y;cases y) q) (fun _ q=>q) fun _ _ q=>q
 exact I.call' (s':={ s' with heap:=h' }) (ch:=fp) I'.os u' hok' I'.bare fun b hb=>⟨(f1 b hb).2.2.2.1,(f1 b hb).2.1,(f1 b hb).2.2.2.2.1,(f1 b hb).2.2.2.2.2⟩
theorem Cq {elt target iter:Expr} {ifs:List Expr} {pos:Pos} {wi:TI} {g:TG} {tc:TT} {te:TE} (hc:X.calm=true) (T:CompTxt X Nc own js scope cl)
   (hi:PI X target iter wi) (hg:∀ C s₂ H₁ fp,PG (X.comp Nc scope cl C s₂ H₁ fp) target g) (ht:∀ C s₂ H₁ fp,PTs (X.comp Nc scope cl C s₂ H₁ fp) ifs tc)
   (he:∀ C s₂ H₁ fp,PE (X.comp Nc scope cl C s₂ H₁ fp) elt te) (hs:∀ x,foldedSetIterable iter X.env x=pure x:=by intro _;rfl) :
   PE X (.ListComp elt [⟨target,iter,ifs,0⟩] scope pos) (t6 own js wi g tc te):=by
 intro pins s σ H Q I h;rw [eval_ListComp];refine wpAny_comprehension_free (use:=none) rfl hs T.clos T.kind T.names (thn (hi pins s σ H _ I h) fun v s1 h1=>thn h1 fun itv s2 h2=>?_);obtain ⟨it,fp,tn,J,H1,rfl,I1,Tn,st,f1,R⟩:=h2;have hfp:∀ b∈fp,b<s2.heap.objs.size:=fun b hb=>let ⟨o,e,_⟩:=Tn.obj _ _ st b hb;Heap.lt_size e;refine wpAny_newObj_type (wpAny_newFunctionEnv T.nocell (by intro y hy;simp at hy) (fun h₁ hns₁ hsb₁=>?_) T.kind);dsimp only at hns₁ hsb₁ ⊢;generalize hH2:s2.heap.push { cls:=.type "list",dict:=none,data:=.seq ([]:List Value).toArray }=H2 at hns₁ hsb₁ ⊢;have hC:H2.objs.size=s2.heap.objs.size+1:=by rw [<- hH2,Heap.size_push]
 have hDC:s2.heap.objs.size≠H2.objs.size:=by rw [hC];exact Nat.ne_of_lt (Nat.lt_succ_self _)
 have hCle:s2.heap.objs.size<=H2.objs.size:=by rw [hC];exact Nat.le_succ _
 have below:∀ b,b<s2.heap.objs.size->b≠H2.objs.size:=fun b hb=>by rw [hC];exact Nat.ne_of_lt (Nat.lt_succ_of_lt hb)
 have old:∀ b o,s2.heap.get? b=some o->h₁.get? b=some o:=fun b o e=>hsb₁.extBut b o (below b (Heap.lt_size e)) (Heap.get?_push_of_some _ (hH2 ▸ Heap.get?_push_of_some _ e));have hacc:∃ n,h₁.get? s2.heap.objs.size=some { cls:=.type "list",data:=.seq ([]:List Value).toArray n }:=⟨_,hsb₁.extBut _ _ hDC (Heap.get?_push_of_some _ (hH2 ▸ Heap.get?_push_size _ rfl))⟩;have st₁:tn 0 h₁:=Tn.keep _ _ _ st fun b _ o e=>old b o e;obtain ⟨W,⟨m0,w0⟩,turn⟩:=R s2.heap.objs.size I1.fresh;have Ic:=qx (t:=s2.toks+([]:List (Str × Value)).length) T I1 hCle (Nat.le_refl _) hDC f1 hfp old hns₁ hacc;generalize hXc:X.comp Nc scope cl H2.objs.size s2 H1 fp=Xc at Ic;have stat:∀ {H':Hp},(∀ b∈fp,H' b=none)->∀ b∈fp,fi Xc [] H' b:=fun {H'} hn b hb=>by
   subst hXc;exact ⟨hn b hb,below b (hfp b hb),(pA T I1 hCle f1 hfp).exfs b hb,.inl hb,fun x c e=>(f1 b hb).2.2.2.2.1 x c (T.cells x c e),fun p hp=>by cases hp⟩
 have fr0:∀ b∈fp,upd H1 s2.heap.objs.size (.lst []) b=none:=fun b hb=>by
   rw [ao (Nat.ne_of_lt (hfp b hb))];exact (f1 b hb).1
 have calmc:Xc.calm=true:=by subst hXc;exact hc
 have loop:∀ s₃:Shared,s₃={ s2 with heap:=h₁,toks:=s2.toks+([]:List (Str × Value)).length } ->
     codeAny (model X.prog X.w) X.A (.compLoop (.ListComp elt [⟨target,iter,ifs,0⟩] scope pos) 0 (.ref it) (.ref s2.heap.objs.size) (compEnvC scope cl H2.objs.size X.env))
       (compPost (model X.prog X.w) X.A X.xe none (EP X pins σ Q) (.ref s2.heap.objs.size) H2.objs.size) s₃:=by
   rintro s₃ rfl;refine kr (fun n s'=>∃ i ys σ' H',Inv Xc [] σ' H' s'/\tn i s'.heap/\(∀ b∈fp,H' b=none)/\W i n ys σ' H') ?_ m0 ⟨0,[],_,_,Ic,st₁,fr0,w0⟩;rintro n s3 ⟨i,ys,σ3,H3,I3,st3,fr3,w3⟩;rcases turn i n ys σ3 H3 w3 with ⟨stop,q⟩|⟨go,step⟩
   . subst hXc;refine thn (Tn.done (X.comp Nc scope cl H2.objs.size s2 H1 fp) rfl rfl rfl hc i [] s3 σ3 H3 _ I3 (stat fr3) st3 stop) fun r s4 ⟨hr,I4⟩=>?_;subst hr;obtain ⟨m4,hn4,_⟩:=id I4.loc;exact ⟨m4,hn4,fun h' hs'=>⟨.ref s2.heap.objs.size,H3,oF I1 hCle f1 I4 hs',rfl,q⟩⟩
   . subst hXc;refine thn (Tn.item (X.comp Nc scope cl H2.objs.size s2 H1 fp) rfl rfl rfl hc i [] s3 σ3 H3 _ I3 (stat fr3) st3 go) fun r s4 ⟨u,hr,h4⟩=>?_;subst hr;refine thn h4 fun _ s5 ⟨x,H5,I5,r5,y5,st5,fr5⟩=>?_;have I5':=I5.pinned (stat fr5) (Tn.obj _ _ st5);have back:∀ {σ7:St} {H7:Hp} {s7:Shared},Inv (X.comp Nc scope cl H2.objs.size s2 H1 fp) ([]++jo fp s5.heap) σ7 H7 s7->Inv (X.comp Nc scope cl H2.objs.size s2 H1 fp) [] σ7 H7 s7/\tn (i+1) s7.heap/\∀ b∈fp,H7 b=none:=fun {σ7 H7 s7} I7=>by
       refine ⟨I7.unpinned,Tn.keep _ _ _ st5 fun b hb o e=>(I7.pin (b,o) (List.mem_append_right _ (List.mem_append_right _ (dL hb e)))).1,fun b hb=>?_⟩;obtain ⟨o,e,d⟩:=Tn.obj _ _ st5 b hb;exact (I7.pin (b,o) (List.mem_append_right _ (List.mem_append_right _ (dL hb e)))).2.1
     refine thn (hg _ _ _ _ _ s5 σ3 H5 x u _ I5' r5 (step x H5 y5)) fun _ s6 ⟨σ6,H6,I6,q6⟩=>?_;refine sH (ht _ _ _ _ _ s6 σ6 H6 _ I6 q6) fun ok s7 H7 I7 q7=>?_;cases ok with
     | false =>
       rw [if_neg Bool.false_ne_true] at q7 ⊢;obtain ⟨m',hm,w7⟩:=q7;obtain ⟨J1,J2,J3⟩:=back I7;exact ⟨m',hm,i+1,ys,σ6,H7,J1,J2,J3,w7⟩
     | true =>
       rw [if_pos rfl] at q7 ⊢;refine bd (he _ _ _ _ _ s7 σ6 H7 _ I7 q7) fun y s8 yv H8 I8 r8 ⟨hp8,hl8,m',hm,w8⟩=>?_;refine thn (fm _ s8 σ6 H8 (.ref s2.heap.objs.size) [yv] _ [y] (fun v' H'=>W (i+1) m' (ys++[yv]) σ6 H') I8 rfl (.cons r8 .nil) ⟨_,ys,yv,rfl,rfl,hp8,hl8,w8⟩) fun v9 s9 ⟨_,H9,I9,_,w9⟩=>?_;obtain ⟨J1,J2,J3⟩:=back I9;exact ⟨m',hm,i+1,ys++[yv],σ6,H9,J1,J2,J3,w9⟩
 exact codeAny_compStart_list (loop _ rfl) (Tn.self _ 0 _ _ _ st₁ (loop _ rfl))
end
end L2
set_option Elab.async false
set_option linter.all false
set_option maxRecDepth 100000
namespace L2
open PySem PySem.Spec PyProof.Rows
section
variable {X:Cx}
def rInsert:V->List V->Hp->VK->Prop:=fun x vs H Q=>∃ (l:Addr) (xs:List V) (i:Int) (y:V),x=.ref l/\vs=[.int i,y]/\H l=some (.lst xs)/\0<=i/\i<=xs.length/\xs.length<sizeLine/\Q .non (upd H l (.lst (xs.take i.toNat++y::xs.drop i.toNat)))
theorem sT:MtM X "list.insert" rInsert:=by
 intro pins s σ H x vs v us Q I rx rv h;obtain ⟨l,xs,i,y,rfl,rfl,hH,h0,hk,hz,q⟩:=h;cases rx;obtain ⟨u1,u2,rfl,⟨t,rfl⟩,ru⟩:=rv.two;obtain ⟨z,its,n,r,hl,e⟩:=I.lstM hH;have hn:=kE;have hf:Builtin.List.listFitsIndex i=true:=by
   unfold Builtin.List.listFitsIndex;rw [Bool.and_eq_true];exact ⟨decide_eq_true (by omega),decide_eq_true (by omega)⟩
 have hf':¬ (!Builtin.List.listFitsIndex i)=true:=by rw [hf];decide
 have hzz:its.toArray.size<=sizeLine:=by rw [List.size_toArray,<- hl];exact z
 refine call_meets PySem.F.slot_list_insert ⟨_,e,rfl⟩ PySem.F.entry_list_insert (PySem.F.args_list_insert_3 _ _ _) (PySem.AutoSeq1.list_insert_list_int_val_1 l its.toArray n i t u2 hf' hzz) ⟨e,?_⟩;refine ⟨.non,_,I.lset (its':=its.take i.toNat++u2::its.drop i.toNat) hH e ?_ ((r.take i.toNat).append (.cons ru (r.drop i.toNat))) ?_,rfl,q⟩
 . show (its.toArray.extract 0 (if i<0 then (i+(its.toArray.size:Int)).toNat else min i.toNat its.toArray.size)).push u2++its.toArray.extract (if i<0 then (i+(its.toArray.size:Int)).toNat else min i.toNat its.toArray.size)=_;have e0:(if i<0 then (i+(its.toArray.size:Int)).toNat else min i.toNat its.toArray.size)=i.toNat:=by
     rw [if_neg (by omega),List.size_toArray];omega
   rw [e0];exact PySem.W.kl_ins_eq its i.toNat u2
 . rw [List.length_append,List.length_cons,List.length_take,List.length_drop];omega
theorem xm:OpR X (binaryOp .Mult) (rI (fun i j=>IntMulOk i j) fun i j=>.int (i*j)):=opI fun i j t u s Q E h q=>PyProof.Rows.mul_int q h
end
mutual
inductive Deep (K:PySem.W.Frag) (H:Hp):V->PyData->Prop
 | non:Deep K H .non .none
 | bl (b:Bool):Deep K H (.bl b) (.bool b)
 | int (i:Int):Deep K H (.int i) (.int i)
 | str {x:Str}:PyData.canLay0 (.str x)=true->Deep K H (.str x) (.str x)
 | lst {a:Addr} {xs:List V} {ds:List PyData}:SqL K H a xs->DeepAll K H xs ds->Deep K H (.ref a) (.list ds)
 | tup {a:Addr} {xs:List V} {ds:List PyData}:SqT K H a xs->DeepAll K H xs ds->Deep K H (.ref a) (.tuple ds)
inductive DeepAll (K:PySem.W.Frag) (H:Hp):List V->List PyData->Prop
 | nil:DeepAll K H [] []
 | cons {x:V} {d:PyData} {xs:List V} {ds:List PyData}:Deep K H x d->DeepAll K H xs ds->DeepAll K H (x::xs) (d::ds)
end
mutual
theorem Deep.reads {X:Cx} {pins:List (Addr × Obj)} {σ:St} {H:Hp} {s:Shared} (I:Inv X pins σ H s):∀ {x:V} {d:PyData} {u:Value},Deep X.K H x d->RelV x u->(∃ as,Reads s.heap u d as)/\d.canLay0=true
 | _,_,_,.non,r=>by cases (show _=Value.none from r);exact ⟨⟨_,.none⟩,by simp [PyData.canLay0]⟩
 | _,_,_,.bl b,r=>by cases (show _=Value.bool b from r);exact ⟨⟨_,.bool b⟩,by simp [PyData.canLay0]⟩
 | _,_,_,.int i,r=>by obtain ⟨t,e⟩:=(show ∃ t,_=Value.int i t from r);cases e;exact ⟨⟨_,.int i t⟩,by simp [PyData.canLay0]⟩
 | _,_,_,.str (x:=x) h,r=>by obtain ⟨t,e⟩:=(show ∃ t,_=Value.str x t from r);cases e;exact ⟨⟨_,.str x t⟩,h⟩
 | _,_,_,.lst (a:=a) h hs,r=>by
   cases (show _=Value.ref a from r);obtain ⟨its,rv,⟨o,n,e,c,_,dd⟩,hz⟩:=I.list h;obtain ⟨⟨as,ra⟩,cl⟩:=DeepAll.reads I hs rv;exact ⟨⟨_,.list e c dd (by simpa using ra)⟩,by simpa [PyData.canLay0] using cl⟩
 | _,_,_,.tup (a:=a) h hs,r=>by
   cases (show _=Value.ref a from r);obtain ⟨its,rv,⟨o,e,c,n,dd⟩,hz⟩:=I.tuple h;obtain ⟨⟨as,ra⟩,cl⟩:=DeepAll.reads I hs rv;exact ⟨⟨_,.tuple e c dd (by simpa using ra)⟩,by simpa [PyData.canLay0] using cl⟩
theorem DeepAll.reads {X:Cx} {pins:List (Addr × Obj)} {σ:St} {H:Hp} {s:Shared} (I:Inv X pins σ H s):∀ {xs:List V} {ds:List PyData} {us:List Value},DeepAll X.K H xs ds->Vals xs us->(∃ as,ReadsAll s.heap us ds as)/\PyData.canLayAll0 ds=true
 | _,_,_,.nil,.nil=>⟨⟨_,.nil⟩,by simp [PyData.canLayAll0]⟩
 | _,_,_,.cons h hs,.cons r rs=>by
   obtain ⟨⟨as,ra⟩,c1⟩:=Deep.reads I h r;obtain ⟨⟨bs,rb⟩,c2⟩:=DeepAll.reads I hs rs;exact ⟨⟨_,.cons ra rb⟩,by simp [PyData.canLayAll0,c1,c2]⟩
end
section
variable {X:Cx}
def Ek (K:PySem.W.Frag):R2:=fun x y H Q=>∃ d e,Deep K H x d/\Deep K H y e/\d.depth<=40/\Q (.bl (PyData.eqv d e)) H
def Ew (K:PySem.W.Frag):R2:=fun x y H Q=>∃ d e,Deep K H x d/\Deep K H y e/\d.depth<=40/\Q (.bl (!PyData.eqv d e)) H
theorem DE (hu:X.A.units+64<cLine):OpR X (compareOp .Eq) (Ek X.K):=by
 intro pins s σ H x y v u Q I rx ry h;obtain ⟨d,e,hd,he,hp,q⟩:=h;obtain ⟨⟨as,ra⟩,ca⟩:=hd.reads I rx;obtain ⟨⟨bs,rb⟩,cb⟩:=he.reads I ry;exact PySem.SeqAt.compareEq_reads ra rb ca cb (by omega) ⟨.bl _,H,I,rfl,q⟩
theorem DB (hu:X.A.units+64<cLine):OpR X (compareOp .NotEq) (Ew X.K):=by
 intro pins s σ H x y v u Q I rx ry h;obtain ⟨d,e,hd,he,hp,q⟩:=h;obtain ⟨⟨as,ra⟩,ca⟩:=hd.reads I rx;obtain ⟨⟨bs,rb⟩,cb⟩:=he.reads I ry;exact PySem.SeqAt.compareNe_reads ra rb ca cb (by omega) ⟨.bl _,H,I,rfl,q⟩
end
end L2
set_option Elab.async false
set_option linter.all false
set_option maxRecDepth 100000
namespace L2
open PySem PySem.Spec PyProof.Rows
structure SubF (P:Program) (w:World) (l:Addr) (ob:Obj) (src:Heap->Array Value->Prop) (at':Addr->Nat->Heap->Prop):Prop where
 start:∀ (A:Around) (s:Shared) (vs:Array Value) (Q:Value->Shared->Prop) (E:Value->Shared->Prop),src s.heap vs->Q (.ref s.heap.objs.size) { s with heap:=s.heap.push ob }->wpAny (model P w) A (pyIter (.ref l)) Q E s
 first:∀ it h,h.get? it=some ob->at' it 0 h
 atK:∀ it i h h',at' it i h->(∀ o,h.get? it=some o->h'.get? it=some o)->at' it i h'
 srcK:∀ h h' vs,src h vs->(∀ o,h.get? l=some o->h'.get? l=some o)->src h' vs
 obj:∀ it i h,at' it i h->∃ o,h.get? it=some o/\∀ v,o.data≠.cell v
 item:∀ (A:Around) (s:Shared) (it:Addr) (i:Nat) (vs:Array Value) (x:Value) (Q:Value->Shared->Prop) (E:Value->Shared->Prop),at' it i s.heap->src s.heap vs->vs[i]?=some x ->
   (∀ h',at' it (i+1) h'->Heap.SameBut it s.heap h'->Q x { s with heap:=h' })->wpAny (model P w) A (Builtin.SmallTypes.nextOf (.ref it)) Q E s
 fin:∀ (A:Around) (s:Shared) (it:Addr) (i:Nat) (vs:Array Value) (Q:Value->Shared->Prop) (E:Value->Shared->Prop),A.handled=none->at' it i s.heap->src s.heap vs->vs[i]?=none ->
   (∀ h' e,Heap.ExtBut it s.heap h'->(∃ o,h'.get? e=some o/\o.cls=.type "StopIteration")->E (.ref e) { s with heap:=h' })->wpAny (model P w) A (Builtin.SmallTypes.nextOf (.ref it)) Q E s
theorem zF {P:Program} {w:World} (l:Addr):SubF P w l { cls:=.type "list_iterator",data:=.fields #[.ref l,.int 0 0] } (fun h vs=>h.IsList l vs) (fun it i h=>h.IsListIter it l i) where
 start:=fun A s vs Q E hl hq=>wpAny_pyIter_list hl hq
 first:=fun it h e=>⟨_,e,rfl,rfl⟩
 atK:=fun it i h h' x k=>x.at k
 srcK:=fun h h' vs x k=>x.at k
 obj:=fun it i h x=>by
   obtain ⟨o,ho,_,hd⟩:=x;exact ⟨o,ho,fun v z=>by rw [hd] at z;cases z⟩
 item:=fun A s it i vs x Q E ha hs hx hq=>wpAny_nextOf_list_item ha hs hx hq
 fin:=fun A s it i vs Q E hh ha hs hx hq=>wpAny_nextOf_list_end hh ha hs hx hq
section
variable {P:Program} {w:World} {A:Around} {E:Value->Shared->Prop} {s:Shared}
theorem pH {it t:Addr} {i:Nat} {vs:Array Value} {x:Value} {Q:Value->Shared->Prop} (hi:s.heap.IsTupleIter it t i) (ht:s.heap.IsTuple t vs) (hx:vs[i]?=some x)
   (hq:∀ h',h'.IsTupleIter it t (i+1)->Heap.SameBut it s.heap h'->Q x { s with heap:=h' }):wpAny (model P w) A (Builtin.SmallTypes.nextOf (.ref it)) Q E s:=by
 obtain ⟨oi,hoi,hci,hdi⟩:=id hi;obtain ⟨ot,hot,_,nt,hdt⟩:=ht;unfold Builtin.SmallTypes.nextOf;refine wpAny_bind (wpAny_callSpecial?_slot (name:=Str.ofString "__next__") hi.typeIs F.slot_tuple_iterator_next (wpAny_call_entry F.slot_tuple_iterator_next hi.typeIs F.entry_tuple_iterator_next ?_ (F.args_tuple_iterator_next_1 _)));show wpAny (model P w) _ (field (.ref it) 0 >>= _) _ _ s;refine wpAny_bind (wpAny_field hoi hdi (x:=.ref t) rfl ?_);show wpAny (model P w) _ (if (Value.ref t == Value.none)=true then _ else _) _ _ s;rw [if_neg (by exact Bool.false_ne_true)];show wpAny (model P w) _ (field (.ref it) 1 >>= _) _ _ s;refine wpAny_bind (wpAny_field hoi hdi (x:=.int i 0) rfl ?_);show wpAny (model P w) _ (seqItems? (.ref t) >>= _) _ _ s;refine wpAny_bind (wpAny_seqItems hot hdt ?_);simp only [Int.toNat_natCast,hx];refine wpAny_bind (wpAny_setField hoi hdi (by simp) (wpAny_pure ⟨x,rfl,wpAny_pure (hq _ ?_ (Heap.SameBut.update ..))⟩));exact ⟨_,Heap.get?_update_self _ hoi (Obj.isFreed_of_fields (Obj.data_mapFields hdi _)),(Obj.cls_mapFields ..).trans hci,by rw [Obj.data_mapFields hdi];simp [rawInt]⟩
theorem qG {it t:Addr} {i:Nat} {vs:Array Value} {Q:Value->Shared->Prop} (hh:A.handled=none) (hi:s.heap.IsTupleIter it t i) (ht:s.heap.IsTuple t vs) (hx:vs[i]?=none)
   (hE:∀ h' e,Heap.ExtBut it s.heap h'->(∃ o,h'.get? e=some o/\o.cls=.type "StopIteration")->E (.ref e) { s with heap:=h' }):wpAny (model P w) A (Builtin.SmallTypes.nextOf (.ref it)) Q E s:=by
 obtain ⟨oi,hoi,hci,hdi⟩:=id hi;obtain ⟨ot,hot,_,nt,hdt⟩:=ht;unfold Builtin.SmallTypes.nextOf;refine wpAny_bind (wpAny_callSpecial?_slot (name:=Str.ofString "__next__") hi.typeIs F.slot_tuple_iterator_next (wpAny_call_entry F.slot_tuple_iterator_next hi.typeIs F.entry_tuple_iterator_next ?_ (F.args_tuple_iterator_next_1 _)));show wpAny (model P w) _ (field (.ref it) 0 >>= _) _ _ s;refine wpAny_bind (wpAny_field hoi hdi (x:=.ref t) rfl ?_);show wpAny (model P w) _ (if (Value.ref t == Value.none)=true then _ else _) _ _ s;rw [if_neg (by exact Bool.false_ne_true)];show wpAny (model P w) _ (field (.ref it) 1 >>= _) _ _ s;refine wpAny_bind (wpAny_field hoi hdi (x:=.int i 0) rfl ?_);show wpAny (model P w) _ (seqItems? (.ref t) >>= _) _ _ s;refine wpAny_bind (wpAny_seqItems hot hdt ?_);simp only [Int.toNat_natCast,hx];refine wpAny_bind (wpAny_rule (wpAny_bind (wpAny_setField hoi hdi (by simp) ?_)));show wpAny (model P w) _ (newExc (.type "StopIteration") [] >>= _) _ _ _;refine wpAny_bind ?_;simp only [newExc,newTuple];refine wpAny_bind (wpAny_newObj_type ?_ (by size_fits));refine wpAny_bind (m:=firstArgMember _ _) (wpAny_of_eq (a:=Value.none) (by first|rfl|(simp only [firstArgMember];rfl)) ?_);refine wpAny_newObj_type ?_ (by size_fits);simp only [raiseNew];refine wpAny_bind (wpAny_handled ?_)
 first|rw [show A.in1.handled=none from hh]|rw [hh]
 refine wpAny_bind (wpAny_pure (wpAny_throw ?_));exact hE _ _ (((Heap.SameBut.update ..).extBut.push _).push _) ⟨_,Heap.get?_push_size _ rfl,rfl⟩
end
theorem BG {P:Program} {w:World} (l:Addr):SubF P w l { cls:=.type "tuple_iterator",data:=.fields #[.ref l,.int 0 0] } (fun h vs=>h.IsTuple l vs) (fun it i h=>h.IsTupleIter it l i) where
 start:=fun A s vs Q E hl hq=>wpAny_pyIter_tuple hl hq
 first:=fun it h e=>⟨_,e,rfl,rfl⟩
 atK:=fun it i h h' x k=>let ⟨o,ho,r⟩:=x;⟨o,k o ho,r⟩
 srcK:=fun h h' vs x k=>let ⟨o,ho,r⟩:=x;⟨o,k o ho,r⟩
 obj:=fun it i h x=>by
   obtain ⟨o,ho,_,hd⟩:=x;exact ⟨o,ho,fun v z=>by rw [hd] at z;cases z⟩
 item:=fun A s it i vs x Q E ha hs hx hq=>pH ha hs hx hq
 fin:=fun A s it i vs Q E hh ha hs hx hq=>qG hh ha hs hx hq
end L2
set_option Elab.async false
set_option linter.all false
set_option maxRecDepth 100000
namespace L2
open PySem PySem.Spec PyProof.Rows
section
variable {P:Program} {w:World} {A:Around} {E:Value->Shared->Prop} {s:Shared} {l1 l2:Addr} {ob1 ob2:Obj} {src1 src2:Heap->Array Value->Prop} {at1 at2:Addr->Nat->Heap->Prop}
end
def SqX (K:PySem.W.Frag):Bool->Hp->Addr->List V->Prop
 | true,H,a,xs=>SqL K H a xs
 | false,H,a,xs=>SqT K H a xs
def Itz (K:PySem.W.Frag) (c d:Bool) (a b:Addr):It :=
 ⟨fun i H=>∃ xs ys x y,SqX K c H a xs/\SqX K d H b ys/\xs[i]?=some x/\ys[i]?=some y,
  fun i H v H'=>∃ p x y,H p=none/\v=.ref p/\H'=upd H p (.tup [x,y])/\(∀ xs,SqX K c H a xs->xs[i]?=some x)/\∀ ys,SqX K d H b ys->ys[i]?=some y,
  fun i H=>∃ xs ys,SqX K c H a xs/\SqX K d H b ys/\(xs.length<=i\/ys.length<=i)⟩
def Dl (a:Addr):Bool->Obj
 | true=>{ cls:=.type "list_iterator",data:=.fields #[.ref a,.int 0 0] }
 | false=>{ cls:=.type "tuple_iterator",data:=.fields #[.ref a,.int 0 0] }
def xM (a:Addr):Bool->Heap->Array Value->Prop
 | true,h,vs=>h.IsList a vs
 | false,h,vs=>h.IsTuple a vs
def zAt (a:Addr):Bool->Addr->Nat->Heap->Prop
 | true,it,i,h=>h.IsListIter it a i
 | false,it,i,h=>h.IsTupleIter it a i
theorem kf (a:Addr) (c:Bool) (P:Program) (w:World):SubF P w a (Dl a c) (xM a c) (zAt a c):=by
 cases c
 . exact BG a
 . exact zF a
theorem yI (a:Addr) (c:Bool):(Dl a c).isFreed=false:=by cases c <;> rfl
theorem ym (a:Addr) (c:Bool) (h:Heap) (vs:Array Value) (e:xM a c h vs):∃ o,h.get? a=some o:=by
 cases c
 . obtain ⟨o,ho,_⟩:=e;exact ⟨o,ho⟩
 . obtain ⟨o,ho,_⟩:=e;exact ⟨o,ho⟩
theorem Inv.sqX {X:Cx} {pins:List (Addr × Obj)} {σ:St} {H:Hp} {s:Shared} {c:Bool} {a:Addr} {xs:List V} (I:Inv X pins σ H s) (h:SqX X.K c H a xs):∃ its:List Value,Vals xs its/\xM a c s.heap its.toArray:=by
 cases c with
 | true =>
   obtain ⟨its,r,pl,_⟩:=I.list h;exact ⟨its,r,pl.isList⟩
 | false =>
   obtain ⟨its,r,⟨o,ho,hc,n,hd⟩,_⟩:=I.tuple h;exact ⟨its,r,⟨o,ho,hc,n,hd⟩⟩
theorem Inv.sqX_inj {X:Cx} {pins:List (Addr × Obj)} {σ:St} {H:Hp} {s:Shared} {c:Bool} {a:Addr} {xs ys:List V} (I:Inv X pins σ H s) (h:SqX X.K c H a xs) (h':SqX X.K c H a ys):xs=ys:=by
 cases c with
 | true=>exact I.list_inj h h'
 | false=>exact I.tuple_inj h h'
end L2
set_option Elab.async false
set_option linter.all false
set_option maxRecDepth 100000
namespace L2
open PySem PySem.Spec PyProof.Rows
section
variable {X:Cx} {pins:List (Addr × Obj)} {σ:St} {H H2:Hp} {s s2:Shared} {a:Addr} {o:HO}
end
section
variable {P:Program} {w:World} {A:Around} {E:Value->Shared->Prop} {s:Shared}
end
end L2
set_option Elab.async false
set_option linter.all false
set_option maxRecDepth 100000
namespace L2
open PySem PySem.Spec PyProof.Rows
section
variable {P:Program} {w:World} {A:Around} {E:Value->Shared->Prop} {s:Shared} {R:Result->Shared->Prop}
end
section
variable {X:Cx} {e:Expr} {te:TE} {p1 p2 pos pos2:Pos}
end
end L2
set_option Elab.async false
set_option linter.all false
set_option maxRecDepth 100000
namespace L2
open PySem PySem.Spec PyProof.Rows
section
variable {X:Cx}
def CZ (K:PySem.W.Frag) (c d:Bool) (ta:TA):TI:=fun σ H R=>ta σ H fun vs H1=>∃ a b,vs=[.ref a,.ref b]/\(∃ xs,SqX K c H1 a xs)/\(∃ ys,SqX K d H1 b ys)/\R (Itz K c d a b) H1
end
end L2
set_option linter.all false
namespace Pb
structure Road where
 a:Int
 b:Int
 t:Int
 u:Int
 deriving DecidableEq
def jx (m:Int) (rs:List Road):Prop:=∀ S:Int->Prop,S 0->(∀ r∈rs,(S r.a↔S r.b))->∀ v,0<=v->v<m->S v
structure RoadOk (m:Int) (r:Road):Prop where
 a0:0<=r.a
 a1:r.a<m
 b0:0<=r.b
 b1:r.b<m
 ne:r.a≠r.b
 t0:2<=r.t
 t1:r.t<=1000000
 u0:2<=r.u
 u1:r.u<=1000000
structure Good (m:Int) (rs:List Road):Prop where
 m1:1<=m
 m24:m<=24
 len:(rs.length:Int)=m - 1
 ok:∀ r∈rs,RoadOk m r
 jn:jx m rs
theorem g0 {α:Type} [DecidableEq α]:∀ {l l':List α},l.Nodup->(∀ x∈l,x∈l')->l.length<=l'.length
 | [],_,_,_=>Nat.zero_le _
 | x::r,l',hn,hs=>by
   obtain ⟨h1,h2⟩:=List.nodup_cons.mp hn;have hx:x∈l':=hs x List.mem_cons_self;have:r.length<=(l'.erase x).length:=g0 h2 fun y hy=>(List.mem_erase_of_ne (fun (e:y=x)=>h1 (by rw [<- e];exact hy))).mpr (hs y (List.mem_cons_of_mem _ hy));rw [List.length_erase_of_mem hx] at this;have hp:0<l'.length:=List.length_pos_of_mem hx;rw [List.length_cons];omega
def below (n:Nat):List Int:=(List.range n).map fun (k:Nat)=>(k:Int)
theorem tz {n:Nat} {v:Int}:v∈below n↔0<=v/\v<n:=by
 unfold below;rw [List.mem_map]
 constructor
 . rintro ⟨k,hk,rfl⟩;have:=List.mem_range.mp hk;omega
 . rintro ⟨h0,h1⟩;exact ⟨v.toNat,List.mem_range.mpr (by omega),by omega⟩
theorem pc (n:Nat):(below n).length=n:=by simp [below]
theorem wJ (n:Nat):(below n).Nodup:=by
 unfold below;refine List.Pairwise.map _ (fun a b h=>?_) (List.nodup_range (n:=n));intro e;exact h (by omega)
theorem dF {m:Int} {l:List Int} (hm:0<=m) (hn:l.Nodup) (h:∀ x∈l,0<=x/\x<m):(l.length:Int)<=m:=by
 have:=g0 (l':=below m.toNat) hn fun x hx=>tz.mpr ⟨(h x hx).1,by have:=(h x hx).2;omega⟩;rw [pc] at this;omega
theorem vq {m:Int} {l:List Int} (hm:0<=m) (h:∀ v,0<=v->v<m->v∈l):m<=(l.length:Int):=by
 have:=g0 (l:=below m.toNat) (l':=l) (wJ _) fun x hx=>by
   obtain ⟨h0,h1⟩:=tz.mp hx;exact h x h0 (by omega)
 rw [pc] at this;omega
def pp (p:Int) (r:Road):List Int:=(if r.a=p then [r.b] else [])++(if r.b=p then [r.a] else [])
def cJ (rs:List Road) (p:Int):List Int:=rs.flatMap (pp p)
theorem lb {rs:List Road} {p e:Int}:e∈cJ rs p↔∃ r∈rs,(r.a=p/\r.b=e)\/(r.b=p/\r.a=e):=by
 unfold cJ pp;rw [List.mem_flatMap]
 constructor
 . rintro ⟨r,hr,h⟩;refine ⟨r,hr,?_⟩;rcases List.mem_append.mp h with h|h
   . by_cases c:r.a=p
     . rw [if_pos c] at h;exact .inl ⟨c,(List.mem_singleton.mp h).symm⟩
     . rw [if_neg c] at h;cases h
   . by_cases c:r.b=p
     . rw [if_pos c] at h;exact .inr ⟨c,(List.mem_singleton.mp h).symm⟩
     . rw [if_neg c] at h;cases h
 . rintro ⟨r,hr,h⟩;refine ⟨r,hr,List.mem_append.mpr ?_⟩;rcases h with ⟨h1,h2⟩|⟨h1,h2⟩
   . exact .inl (by rw [if_pos h1,h2];exact List.mem_singleton.mpr rfl)
   . exact .inr (by rw [if_pos h1,h2];exact List.mem_singleton.mpr rfl)
theorem Bg (rs:List Road) (p:Int):(cJ rs p).length<=2*rs.length:=by
 unfold cJ
 induction rs with
 | nil=>simp
 | cons r rs ih =>
   rw [List.flatMap_cons,List.length_append,List.length_cons];have:(pp p r).length<=2:=by
     unfold pp;rw [List.length_append];by_cases c:r.a=p <;> by_cases d:r.b=p <;> simp [c,d]
   omega
theorem jK (rs:List Road) (r:Road) (p:Int):cJ (rs++[r]) p=cJ rs p++pp p r:=by
 unfold cJ;rw [List.flatMap_append];simp
def q8 (c:List Int × List Int) (e:Int):List Int × List Int:=if e∈c.1 then c else (c.1++[e],c.2++[e])
structure JInv (m:Int) (rs:List Road) (ks ws:List Int):Prop where
 nd:ks.Nodup
 zero:0∈ks
 rng:∀ k∈ks,0<=k/\k<m
 sub:∀ w∈ws,w∈ks
 cl:∀ k∈ks,k ∉ ws->∀ e∈cJ rs k,e∈ks
 wl:ws.length<=ks.length
theorem iK {l:List Int} {e:Int} (h:l.Nodup) (he:e ∉ l):(l++[e]).Nodup:=by
 rw [List.nodup_append];refine ⟨h,by simp,fun a ha b hb=>?_⟩;rw [List.mem_singleton.mp hb];exact fun z=>he (z ▸ ha)
structure JMid (m:Int) (rs:List Road) (p:Int) (es ks ws ks0:List Int) (n0:Nat):Prop where
 nd:ks.Nodup
 zero:0∈ks
 rng:∀ k∈ks,0<=k/\k<m
 sub:∀ w∈ws,w∈ks
 cl:∀ k∈ks,k ∉ ws->k=p\/∀ e∈cJ rs k,e∈ks
 seen:∀ e∈es,e∈ks
 pin:p∈ks
 mu:ks.length+n0=ks0.length+ws.length
 up:ks0.length<=ks.length
 wl:ws.length<=ks.length
theorem JMid.start {m:Int} {rs:List Road} {ks ws:List Int} {p:Int} (h:JInv m rs ks (ws++[p])):JMid m rs p [] ks ws ks ws.length where
 nd:=h.nd
 zero:=h.zero
 rng:=h.rng
 sub:=fun w hw=>h.sub w (List.mem_append_left _ hw)
 cl:=fun k hk hw=>by
   by_cases e:k=p
   . exact .inl e
   . exact .inr (h.cl k hk fun z=>by
       rcases List.mem_append.mp z with z|z
       . exact hw z
       . exact e (List.mem_singleton.mp z))
 seen:=fun e he=>by cases he
 pin:=h.sub p (List.mem_append_right _ (List.mem_singleton.mpr rfl))
 mu:=rfl
 up:=Nat.le_refl _
 wl:=by have:=h.wl;rw [List.length_append] at this;simp at this;omega
theorem JMid.step {m:Int} {rs:List Road} {p:Int} {es ks ws ks0:List Int} {n0:Nat} {e:Int} (h:JMid m rs p es ks ws ks0 n0) (h0:0<=e) (h1:e<m) :
   JMid m rs p (es++[e]) (q8 (ks,ws) e).1 (q8 (ks,ws) e).2 ks0 n0:=by
 unfold q8;by_cases c:e∈ks
 . rw [if_pos c];refine ⟨h.nd,h.zero,h.rng,h.sub,h.cl,fun x hx=>?_,h.pin,h.mu,h.up,h.wl⟩;rcases List.mem_append.mp hx with z|z
   . exact h.seen x z
   . rw [List.mem_singleton.mp z];exact c
 . rw [if_neg c];dsimp only;refine ⟨iK h.nd c,List.mem_append_left _ h.zero,fun k hk=>?_,fun w hw=>?_,fun k hk hw=>?_,fun x hx=>?_,List.mem_append_left _ h.pin,?_,by have:=h.up;simp;omega,by have:=h.wl;simp;exact this⟩
   . rcases List.mem_append.mp hk with z|z
     . exact h.rng k z
     . rw [List.mem_singleton.mp z];exact ⟨h0,h1⟩
   . rcases List.mem_append.mp hw with z|z
     . exact List.mem_append_left _ (h.sub w z)
     . exact List.mem_append_right _ z
   . rcases List.mem_append.mp hk with z|z
     . rcases h.cl k z fun y=>hw (List.mem_append_left _ y) with y|y
       . exact .inl y
       . exact .inr fun x hx=>List.mem_append_left _ (y x hx)
     . exact absurd (List.mem_append_right _ z) hw
   . rcases List.mem_append.mp hx with z|z
     . exact List.mem_append_left _ (h.seen x z)
     . exact List.mem_append_right _ z
   . have:=h.mu;simp only [List.length_append,List.length_cons,List.length_nil];omega
theorem JMid.done {m:Int} {rs:List Road} {p:Int} {ks ws ks0:List Int} {n0:Nat} (h:JMid m rs p (cJ rs p) ks ws ks0 n0):JInv m rs ks ws where
 nd:=h.nd
 zero:=h.zero
 rng:=h.rng
 sub:=h.sub
 cl:=fun k hk hw=>by
   rcases h.cl k hk hw with z|z
   . rw [z];exact h.seen
   . exact z
 wl:=h.wl
theorem JInv.start {m:Int} {rs:List Road} (hm:1<=m):JInv m rs [0] [0] where
 nd:=by simp
 zero:=by simp
 rng:=fun k hk=>by rw [List.mem_singleton.mp hk];omega
 sub:=fun w hw=>hw
 cl:=fun k hk hw=>absurd hk hw
 wl:=by simp
theorem JInv.all {m:Int} {rs:List Road} {ks:List Int} (h:JInv m rs ks []) (hm:1<=m) (j:jx m rs):(ks.length:Int)=m:=by
 have up:=dF (by omega) h.nd h.rng;have:∀ v,0<=v->v<m->v∈ks:=j (fun v=>v∈ks) h.zero fun r hr=>by
   constructor
   . intro ha;exact h.cl r.a ha (by simp) r.b (lb.mpr ⟨r,hr,.inl ⟨rfl,rfl⟩⟩)
   . intro hb;exact h.cl r.b hb (by simp) r.a (lb.mpr ⟨r,hr,.inr ⟨rfl,rfl⟩⟩)
 have:=vq (by omega) this;omega
theorem Bb {m:Int} {rs:List Road} (h:∀ r∈rs,RoadOk m r) {p e:Int} (he:e∈cJ rs p):0<=e/\e<m:=by
 obtain ⟨r,hr,z⟩:=lb.mp he;have k:=h r hr;rcases z with ⟨_,rfl⟩|⟨_,rfl⟩
 . exact ⟨k.b0,k.b1⟩
 . exact ⟨k.a0,k.a1⟩
structure Row where
 k:Int
 un:Int
 t:Int
 u:Int
 sw:Int
 sp:Int
structure RowOk (r:Row):Prop where
 u0:0<=r.un
 u1:r.un<r.k
 t0:2<=r.t
 t1:r.t<=1000000
 v0:2<=r.u
 v1:r.u<=1000000
 s0:0<=r.sp
 s1:r.sp<r.k
structure Rows (n:Nat) (rows:List Row):Prop where
 len:rows.length=n
 ok:∀ (i:Nat) (r:Row),rows[i]?=some r->r.k=(i:Int)+1/\RowOk r
structure Labels (n:Nat) (ls:List Int):Prop where
 len:ls.length=n
 nd:ls.Nodup
 all:∀ v:Int,0<=v->v<n->v∈ls
 rng:∀ v∈ls,0<=v/\v<n
theorem Labels.nil:Labels 0 []:=⟨rfl,by simp,fun v h0 h1=>(by omega),fun v h=>(by cases h)⟩
theorem iM {α:Type} {l:List α} {k:Nat} {x y:α}:y∈l.take k++x::l.drop k↔y=x\/y∈l:=by
 rw [List.mem_append,List.mem_cons]
 constructor
 . rintro (h|h|h)
   . exact .inr (List.mem_of_mem_take h)
   . exact .inl h
   . exact .inr (List.mem_of_mem_drop h)
 . rintro (h|h)
   . exact .inr (.inl h)
   . rw [<- List.take_append_drop k l] at h;rcases List.mem_append.mp h with z|z
     . exact .inl z
     . exact .inr (.inr z)
theorem Labels.put {n:Nat} {ls:List Int} (h:Labels n ls) (k:Nat) (hk:k<=n):Labels (n+1) (ls.take k++(n:Int)::ls.drop k) where
 len:=by
   rw [List.length_append,List.length_cons,List.length_take,List.length_drop,h.len];omega
 nd:=by
   have p:(ls.take k++(n:Int)::ls.drop k).Perm ((n:Int)::ls):=by
     refine List.perm_middle.trans ?_;rw [List.take_append_drop]
   refine p.nodup_iff.mpr (List.nodup_cons.mpr ⟨fun z=>?_,h.nd⟩);have:=(h.rng _ z).2;omega
 all:=fun v h0 h1=>by
   rw [iM];by_cases e:v=n
   . exact .inl e
   . exact .inr (h.all v h0 (by omega))
 rng:=fun v hv=>by
   rcases iM.mp hv with z|z
   . omega
   . have:=h.rng v z;omega
def gw (ls:List Int) (r:Row):Road:=if r.sw=1 then ⟨ls.getD r.un.toNat 0,ls.getD r.k.toNat 0,r.t,r.u⟩ else ⟨ls.getD r.k.toNat 0,ls.getD r.un.toNat 0,r.t,r.u⟩
structure Put (ls:List Int) (rows:List Row) (rs:List Road):Prop where
 len:rs.length=rows.length
 of:∀ r∈rs,∃ w∈rows,r=gw ls w
 to:∀ w∈rows,gw ls w∈rs
theorem Put.nil (ls:List Int):Put ls [] []:=⟨rfl,fun r h=>(by cases h),fun r h=>(by cases h)⟩
theorem Put.step {ls:List Int} {rows:List Row} {rs:List Road} (h:Put ls rows rs) (w:Row) (k:Nat):Put ls (rows++[w]) (rs.take k++gw ls w::rs.drop k) where
 len:=by
   rw [List.length_append,List.length_cons,List.length_take,List.length_drop,List.length_append,h.len];simp;omega
 of:=fun r hr=>by
   rcases iM.mp hr with z|z
   . exact ⟨w,by simp,z⟩
   . obtain ⟨w',hw,e⟩:=h.of r z;exact ⟨w',List.mem_append_left _ hw,e⟩
 to:=fun w' hw=>by
   rw [iM];rcases List.mem_append.mp hw with z|z
   . exact .inr (h.to w' z)
   . exact .inl (by rw [List.mem_singleton.mp z])
theorem iQ {ls:List Int} {n:Nat} (h:Labels n ls) {i:Nat} (hi:i<n):ls[i]?=some (ls.getD i 0):=by
 have:i<ls.length:=by rw [h.len];exact hi
 simp [List.getD,List.getElem?_eq_getElem this]
theorem uq {ls:List Int} {n:Nat} (h:Labels n ls) {i:Nat} (hi:i<n):ls.getD i 0∈ls:=List.mem_of_getElem? (iQ h hi)
theorem Br {ls:List Int} {n:Nat} (h:Labels n ls) {i j:Nat} (hi:i<n) (hj:j<n) (e:ls.getD i 0=ls.getD j 0):i=j:=by
 have h1:i<ls.length:=by rw [h.len];exact hi
 have h2:j<ls.length:=by rw [h.len];exact hj
 have e1:=iQ h hi;have e2:=iQ h hj;rw [e] at e1;have e3:ls[i]'h1=ls[j]'h2:=by
   rw [List.getElem?_eq_getElem h1] at e1;rw [List.getElem?_eq_getElem h2] at e2;exact Option.some.inj (e1.trans e2.symm)
 have nd:=List.pairwise_iff_getElem.mp h.nd;rcases Nat.lt_trichotomy i j with z|z|z
 . exact absurd e3 (nd i j h1 h2 z)
 . exact z
 . exact absurd e3.symm (nd j i h2 h1 z)
theorem CI {n:Nat} {ls:List Int} {rows:List Row} {rs:List Road} (h1:1<=n) (h24:n<=24) (L:Labels n ls) (W:Rows (n - 1) rows) (P:Put ls rows rs):Good n rs where
 m1:=by omega
 m24:=by omega
 len:=by rw [P.len,W.len];omega
 ok:=fun r hr=>by
   obtain ⟨w,hw,rfl⟩:=P.of r hr;obtain ⟨i,hi⟩:=List.getElem?_of_mem hw;obtain ⟨ek,ok⟩:=W.ok i w hi;have hil:i<rows.length:=(List.getElem?_eq_some_iff.mp hi).1;rw [W.len] at hil;have hk:w.k.toNat<n:=by omega
   have hu:w.un.toNat<n:=by have:=ok.u0;have:=ok.u1;omega
   have r1:=L.rng _ (uq L hk);have r2:=L.rng _ (uq L hu);have ne:ls.getD w.k.toNat 0≠ls.getD w.un.toNat 0:=fun e=>by
     have:=Br L hk hu e;have:=ok.u0;have:=ok.u1;omega
   unfold gw;by_cases c:w.sw=1
   . rw [if_pos c];exact ⟨r2.1,r2.2,r1.1,r1.2,ne.symm,ok.t0,ok.t1,ok.v0,ok.v1⟩
   . rw [if_neg c];exact ⟨r1.1,r1.2,r2.1,r2.2,ne,ok.t0,ok.t1,ok.v0,ok.v1⟩
 jn:=by
   intro S s0 hS;have key:∀ i:Nat,i<n->(S (ls.getD i 0)↔S (ls.getD 0 0)):=by
     intro i
     induction i using Nat.strongRecOn with
     | ind i ih =>
       intro hi;by_cases z:i=0
       . rw [z]
       . have hil:i - 1<rows.length:=(by rw [W.len];omega);obtain ⟨ek,ok⟩:=W.ok (i - 1) rows[i - 1] (List.getElem?_eq_getElem hil);have hm:=P.to rows[i - 1] (List.getElem_mem hil);have hr:=hS _ hm;have hk:(rows[i - 1]).k.toNat=i:=(by omega);have hu:(rows[i - 1]).un.toNat<i:=(by have:=ok.u0;have:=ok.u1;omega);have hh:=ih _ hu (by omega);unfold gw at hr;rw [hk] at hr;by_cases c:(rows[i - 1]).sw=1
         . rw [if_pos c] at hr;exact hr.symm.trans hh
         . rw [if_neg c] at hr;exact hr.trans hh
   have at_:∀ v,0<=v->v<(n:Int)->∃ i,i<n/\ls.getD i 0=v:=fun v h0 h1=>by
     obtain ⟨i,hi⟩:=List.getElem?_of_mem (L.all v h0 h1);have hil:i<n:=(by have:=(List.getElem?_eq_some_iff.mp hi).1;rw [L.len] at this;exact this);refine ⟨i,hil,?_⟩;have:=iQ L hil;rw [hi] at this;exact (Option.some.inj this).symm
   intro v h0 hv;obtain ⟨i,hi,rfl⟩:=at_ v h0 hv;obtain ⟨j,hj,ej⟩:=at_ 0 (by omega) (by omega);refine (key i hi).mpr ((key j hj).mp ?_);rw [ej];exact s0
end Pb
set_option linter.all false
namespace Pb
section
variable {m:Int} {row:List Int} {rs rs':List Road}
end
end Pb
set_option Elab.async false
set_option linter.all false
set_option maxRecDepth 100000
namespace L2
open PySem PySem.Spec PyProof.Rows
def bO (CX:CXT):Prop:=∀ outer H s e s',¬ CX outer H s E0 e s'
theorem aP {CX:CXT} (q:bO CX) {X:Cx}:rK CX X E0:=fun _ _ _ _ _ _ _ h=>(q _ _ _ _ _ h).elim
structure Df (K:PySem.W.Frag) (mg:Str->Option Value) (x:Str) (st:Stmt) (ps:List Str) (f:Addr) (fd:FuncData):Prop where
 F:Fun K x x st f fd
 m:mg x=some (.ref f)
 b:Binds K fd ps []
section
variable {P:Program} {w:World} {K:PySem.W.Frag} {mg:Str->Option Value} {base:Heap} {CX:CXT}
theorem Fun.okC {x qual:Str} {st:Stmt} {f:Addr} {fd:FuncData} {N ps:List Str} {k:Nat} {sp:Sp} (F:Fun K x qual st f fd) (S:FnScope N ps (af st)) (len:∀ vs H Q E,sp vs H Q E->vs.length=ps.length)
   (hbody:∀ (cdv:Value) (A:Around) (outer:List Env) (s:Shared) (H:Hp) (vs:List V) (Q:VK) (E:XK),Room k (A.deeper (envOfC qual (af st) s.heap.objs.size f cdv))->sp vs H Q E ->
     ∃ t,PSs (g5 CX P w K mg base N qual (af st) f cdv A outer s H E).nox (aL st) t/\t { nx:=fun _ H'=>Q .non H',rt:=Q } (start N vs) H):FnOk P w K mg base CX (k+1) f fd ps sp:=by
 obtain ⟨oc,od,kV,doc,pm,an,cdv,ct,osl,rfl,lk,hcd⟩:=F.ex;refine Cg lk hcd S len fun A outer s H vs Q E hr hsp=>?_;obtain ⟨t,h,q⟩:=hbody cdv A outer s H vs Q E hr hsp;exact ⟨t,h.nox,q⟩
end
structure NmL (sc:Scope) (x:Str):Prop where
 l:sc.names.lookup x=some .local
 d:(x == ("__debug__":Str))=false
 c:(x == ("__classdict__":Str))=false
structure NmG (sc:Scope) (x:Str):Prop where
 g:sc.names.lookup x=some .globalImplicit
 d:(x == ("__debug__":Str))=false
 n:x≠"__name__"
theorem us1 {us:List Value} (h:us.length=1):∃ a0,us=[a0]:=List.length_eq_one_iff.mp h
theorem us2 {us:List Value} (h:us.length=2):∃ a0 a1,us=[a0,a1]:=by
 cases us with
 | nil=>cases h
 | cons a0 t =>
   obtain ⟨a1,e⟩:=us1 (Nat.succ.inj h);subst e;exact ⟨a0,a1,rfl⟩
theorem us3 {us:List Value} (h:us.length=3):∃ a0 a1 a2,us=[a0,a1,a2]:=by
 cases us with
 | nil=>cases h
 | cons a0 t =>
   obtain ⟨a1,a2,e⟩:=us2 (Nat.succ.inj h);subst e;exact ⟨a0,a1,a2,rfl⟩
theorem us4 {us:List Value} (h:us.length=4):∃ a0 a1 a2 a3,us=[a0,a1,a2,a3]:=by
 cases us with
 | nil=>cases h
 | cons a0 t =>
   obtain ⟨a1,a2,a3,e⟩:=us3 (Nat.succ.inj h);subst e;exact ⟨a0,a1,a2,a3,rfl⟩
def nmL (sc:Scope) (x:Str):Bool:=decide (sc.names.lookup x=some .local) && !(x == ("__debug__":Str)) && !(x == ("__classdict__":Str))
def nmG (sc:Scope) (x:Str):Bool:=decide (sc.names.lookup x=some .globalImplicit) && !(x == ("__debug__":Str)) && !decide (x="__name__")
theorem NmL.of {sc:Scope} {x:Str} (h:nmL sc x=true):NmL sc x:=by
 unfold nmL at h;simp only [Bool.and_eq_true,decide_eq_true_eq,Bool.not_eq_true'] at h;exact ⟨h.1.1,h.1.2,h.2⟩
theorem NmG.of {sc:Scope} {x:Str} (h:nmG sc x=true):NmG sc x:=by
 unfold nmG at h;simp only [Bool.and_eq_true,decide_eq_true_eq,Bool.not_eq_true',decide_eq_false_iff_not] at h;exact ⟨h.1.1,h.1.2,h.2⟩
def DY (N ps:List Str) (sc:Scope):Bool:=decide (sc.kind=.function) && !sc.isCoroutine && !sc.isGenerator && decide N.Nodup && decide (N.take ps.length=ps) && (ps.all fun x=>decide (sc.names.lookup x=some .local\/sc.names.lookup x=some .cell)) && (sc.names.all fun y=>decide (y.2≠.free))
theorem FnScope.of {N ps:List Str} {sc:Scope} (h:DY N ps sc=true):FnScope N ps sc:=by
 unfold DY at h;simp only [Bool.and_eq_true,decide_eq_true_eq,Bool.not_eq_true',List.all_eq_true] at h;obtain ⟨⟨⟨⟨⟨⟨h1,h2⟩,h3⟩,h4⟩,h5⟩,h6⟩,h7⟩:=h;exact ⟨h1,h2,h3,h4,h5,h6,h7⟩
theorem pvl {X:Cx} (i:Nat) {x:Str} {pos:Pos} (n:NmL X.env.scope x) (hN:X.N[i]?=some x:=by rfl):PE X (.Name x pos) (uo i):=yx hN (.inl n.l) n.d n.c
theorem yz {CX:CXT} {P:Program} {w:World} {K:PySem.W.Frag} {mg:Str->Option Value} {base:Heap} {N:List Str} {qual:Str} {scope:Scope} {f:Addr} {cd:Value} {A:Around} {outer:List Env} {s:Shared} {H:Hp} {E:XK} :
   (g5 CX P w K mg base N qual scope f cd A outer s H E).K=K:=rfl
theorem sV (D:Ends) (σ:St) (H:Hp):C0 D σ H=False:=rfl
theorem CD (i j:Int):og (.int i) (.int j)=true:=rfl
theorem CK (i j:Bool):og (.bl i) (.bl j)=true:=rfl
theorem Cv (i:Int):og (.int i) .non=true:=rfl
theorem CF (i:Int):og .non (.int i)=true:=rfl
theorem Cs:og .non .non=true:=rfl
theorem Ct (i j:Str):og (.str i) (.str j)=true:=rfl
theorem ixT {K:PySem.W.Frag} {H:Hp} {p:Addr} {xs:List V} {i:Int} {v:V} {Q:VK} (h:H p=some (.tup xs)) (e:atI xs i=some v) (q:Q v H):D1 K (.ref p) (.int i) H Q:=⟨p,xs,i,v,rfl,rfl,SqT.of h,e,q⟩
theorem ixL {K:PySem.W.Frag} {H:Hp} {p:Addr} {xs:List V} {i:Int} {v:V} {Q:VK} (h:H p=some (.lst xs)) (e:atI xs i=some v) (q:Q v H):Bw K (.ref p) (.int i) H Q:=⟨p,xs,i,v,rfl,rfl,SqL.of h,e,q⟩
theorem ixS {K:PySem.W.Frag} {H:Hp} {p:Addr} {xs:List V} {i:Int} {v:V} {Q:VK} (h:SqL K H p xs) (e:atI xs i=some v) (q:Q v H):Bw K (.ref p) (.int i) H Q:=⟨p,xs,i,v,rfl,rfl,h,e,q⟩
theorem tyL {K:PySem.W.Frag} {H:Hp} {l:Addr} {xs:List V} (h:H l=some (.lst xs)):tyV K "list" (.ref l) H:=.inl ⟨rfl,_,SqL.of h⟩
theorem vb {H:Hp} {l:Addr} {xs:List V} {y:V} {Q:VK} (h:H l=some (.lst xs)) (hz:xs.length<sizeLine) (q:Q .non (upd H l (.lst (xs++[y])))):rAppend (.ref l) [y] H Q:=⟨l,xs,y,rfl,rfl,h,hz,q⟩
theorem Dq {H:Hp} {l:Addr} {xs:List V} {i:Int} {y:V} {Q:VK} (h:H l=some (.lst xs)) (h0:0<=i) (h1:i<=xs.length) (hz:xs.length<sizeLine) (q:Q .non (upd H l (.lst (xs.take i.toNat++y::xs.drop i.toNat)))):rInsert (.ref l) [.int i,y] H Q :=
 ⟨l,xs,i,y,rfl,rfl,h,h0,h1,hz,q⟩
theorem Et {H:Hp} {l:Addr} {xs:List V} {y:V} {Q:VK} (h:H l=some (.lst (xs++[y]))) (q:Q y (upd H l (.lst xs))):rPop (.ref l) [] H Q :=
 ⟨l,xs++[y],y,rfl,rfl,h,by simp,by rw [List.dropLast_concat];exact q⟩
theorem eG {n:Nat} (h:n<=100000):n<sizeLine:=Nat.lt_of_le_of_lt h (by decide)
theorem aD {n:Nat} (h:n<=100000):n<=sizeLine:=Nat.le_of_lt (eG h)
theorem gY {α:Type} {xs:List α} {i:Int} {v:α} (h0:0<=i) (h:xs[i.toNat]?=some v):atI xs i=some v:=by
 obtain ⟨n,rfl⟩:∃ n:Nat,i=n:=⟨i.toNat,by omega⟩;exact pE (by simpa using h)
theorem qw {X:Cx} {x:Str} {i:Int} {pos:Pos} (hg:Gl X x) (hm:∃ t,X.mg x=some (.int i t)) (hd:(x == ("__debug__":Str))=false:=by decide):PE X (.Name x pos) (tC (.int i)):=by
 obtain ⟨t,e⟩:=hm;exact dA hg e ⟨t,rfl⟩ hd
def Itx (K:PySem.W.Frag):Bool->Addr->It
 | true,a=>Itl K a
 | false,a=>Itt K a
def BK (K:PySem.W.Frag) (c:Bool) (tl:TE):TI:=fun σ H R=>tl σ H fun x H1=>∃ a,x=.ref a/\(∃ xs,SqX K c H1 a xs)/\R (Itx K c a) H1
theorem DG {X:Cx} {tg l:Expr} {tl:TE} (c:Bool) (hl:PE X l tl):PI X tg l (BK X.K c tl):=by
 cases c
 . exact qQ hl
 . exact kU hl
def qI (J:It) (p:Addr) (Q:VK) (g:TG) (tc:TT) (te:TE) (σ0:St) (H0:Hp):Prop :=
 ∃ W:Nat->Nat->List V->St->Hp->Prop,(∃ m,W 0 m [] σ0 H0)/\∀ i m ys σc Hc,W i m ys σc Hc ->
   (J.stop i Hc/\Q (.ref p) Hc)\/(J.go i Hc/\∀ x H',J.yld i Hc x H'->g x σc H' fun σ2 H2=>tc σ2 H2 fun b H3 =>
     if b=true then te σ2 H3 fun y H4=>H4 p=some (.lst ys)/\ys.length<sizeLine/\∃ m',m'<m/\W (i+1) m' (ys++[y]) σ2 (upd H4 p (.lst (ys++[y])))
     else ∃ m',m'<m/\W (i+1) m' ys σ2 H3)
theorem sZ {own:Nat} {js:List Nat} {wi:TI} {g:TG} {tc:TT} {te:TE} {σ:St} {H:Hp} {Q:VK}:t6 own js wi g tc te σ H Q=wi σ H fun J H1=>∀ p,H1 p=none->qI J p Q g tc te (eL own js σ) (upd H1 p (.lst [])):=rfl
def ly (J:It) (D:Ends) (g:TG) (tb:TS) (σ:St) (H:Hp):Prop:=∃ W:Nat->Nat->St->Hp->Prop,(∃ m,W 0 m σ H)/\∀ i m σ H,W i m σ H ->
 (J.stop i H/\D.nx σ H)\/(J.go i H/\∃ N:St->Hp->Prop,(∀ σ' H',N σ' H'->∃ m',m'<m/\W (i+1) m' σ' H')/\∀ x H',J.yld i H x H'->g x σ H' fun σ2 H2=>tb { D with nx:=N,ct:=N,bk:=D.nx } σ2 H2)
theorem xl {wi:TI} {g:TG} {tb:TS} {D:Ends} {σ:St} {H:Hp}:DN wi g tb D σ H=wi σ H fun J H1=>ly J D g tb σ H1:=rfl
theorem B2 {K:PySem.W.Frag} {c:Bool} {a p:Addr} {xs:List V} {Q:VK} {g:TG} {tc:TT} {te:TE} {σ0:St} {H0:Hp} (Pv:Nat->List V->St->Hp->Prop) (h0:Pv 0 [] σ0 H0) (hl:∀ i ys σ H,i<=xs.length->Pv i ys σ H->SqX K c H a xs)
   (hs:∀ (i:Nat) (x:V) (ys:List V) (σ:St) (H:Hp) (N:List V->St->Hp->Prop),(∀ ys' σ' H',Pv (i+1) ys' σ' H'->N ys' σ' H')->xs[i]?=some x->Pv i ys σ H->g x σ H fun σ2 H2=>tc σ2 H2 fun b H3 =>
     if b=true then te σ2 H3 fun y H4=>H4 p=some (.lst ys)/\ys.length<sizeLine/\N (ys++[y]) σ2 (upd H4 p (.lst (ys++[y]))) else N ys σ2 H3)
   (hd:∀ ys σ H,Pv xs.length ys σ H->Q (.ref p) H):qI (Itx K c a) p Q g tc te σ0 H0:=by
 refine ⟨fun i m ys σ H=>m=xs.length - i/\i<=xs.length/\Pv i ys σ H,⟨xs.length,by simp,Nat.zero_le _,h0⟩,?_⟩;rintro i m ys σ H ⟨rfl,hi,pv⟩;have q:=hl i ys σ H hi pv;by_cases hlt:i<xs.length
 . refine .inr ⟨?_,fun x H' y=>?_⟩
   . cases c
     . exact ⟨xs,xs[i],q,by simp [hlt]⟩
     . exact ⟨xs,xs[i],q,by simp [hlt]⟩
   . have e:H'=H/\xs[i]?=some x:=by
       cases c
       . exact ⟨y.1,y.2 xs q⟩
       . exact ⟨y.1,y.2 xs q⟩
     obtain ⟨rfl,hx⟩:=e;exact hs i x ys σ _ (fun ys' σ' H'=>∃ m',m'<xs.length - i/\(m'=xs.length - (i+1)/\i+1<=xs.length/\Pv (i+1) ys' σ' H')) (fun ys' σ' H' pv'=>⟨xs.length - (i+1),by omega,rfl,hlt,pv'⟩) hx pv
 . have e:i=xs.length:=by omega
   subst e;refine .inl ⟨?_,hd ys σ H pv⟩;cases c
   . exact ⟨xs,q,Nat.le_refl _⟩
   . exact ⟨xs,q,Nat.le_refl _⟩
theorem xF {lo:Int} {n:Nat} {p:Addr} {Q:VK} {g:TG} {tc:TT} {te:TE} {σ0:St} {H0:Hp} (Pv:Nat->List V->St->Hp->Prop) (h0:Pv 0 [] σ0 H0)
   (hs:∀ (i:Nat) (ys:List V) (σ:St) (H:Hp) (N:List V->St->Hp->Prop),(∀ ys' σ' H',Pv (i+1) ys' σ' H'->N ys' σ' H')->i<n->Pv i ys σ H->g (.int (lo+i)) σ H fun σ2 H2=>tc σ2 H2 fun b H3 =>
     if b=true then te σ2 H3 fun y H4=>H4 p=some (.lst ys)/\ys.length<sizeLine/\N (ys++[y]) σ2 (upd H4 p (.lst (ys++[y]))) else N ys σ2 H3)
   (hd:∀ ys σ H,Pv n ys σ H->Q (.ref p) H):qI (Itr lo n) p Q g tc te σ0 H0:=by
 refine ⟨fun i m ys σ H=>m=n - i/\i<=n/\Pv i ys σ H,⟨n,by simp,Nat.zero_le _,h0⟩,?_⟩;rintro i m ys σ H ⟨rfl,hi,pv⟩;by_cases hlt:i<n
 . refine .inr ⟨hlt,fun x H' y=>?_⟩;obtain ⟨rfl,rfl⟩:=y;exact hs i ys σ _ (fun ys' σ' H'=>∃ m',m'<n - i/\(m'=n - (i+1)/\i+1<=n/\Pv (i+1) ys' σ' H')) (fun ys' σ' H' pv'=>⟨n - (i+1),by omega,rfl,hlt,pv'⟩) hlt pv
 . have e:i=n:=by omega
   subst e;exact .inl ⟨Nat.le_refl _,hd ys σ H pv⟩
theorem d8:bootBuiltins "len"=some (.builtin "len"):=by decide +kernel
theorem bj:bootBuiltins "isinstance"=some (.builtin "isinstance"):=by decide +kernel
theorem zA:bootBuiltins "min"=some (.builtin "min"):=by decide +kernel
theorem zg:bootBuiltins "max"=some (.builtin "max"):=by decide +kernel
theorem zu:bootBuiltins "int"=some (.type "int"):=by decide +kernel
theorem xi:bootBuiltins "list"=some (.type "list"):=by decide +kernel
theorem uj:bootBuiltins "tuple"=some (.type "tuple"):=by decide +kernel
section
variable {X:Cx} {a b o e:Expr} {es:List Expr} {ta tb to:TE} {t:TA} {pos apos cpos:Pos} {f name:Str} {T id:String} {r:V->List V->Hp->VK->Prop}
theorem sy (K:PySem.W.Frag) (h:X.K=K):gN X (.type "tuple") (fun xs H Q=>∃ p ys,xs=[.ref p]/\((SqL K H p ys/\∀ l,H l=none->Q (.ref l) (upd H l (.tup ys)))\/(SqT K H p ys/\Q (.ref p) H))):=by subst h;exact nn
end
theorem qS {x:Str} {k:NameKind}:∀ {l:List (Str × NameKind)},l.lookup x=some k->∃ y,(y,k)∈l
 | [],h=>by simp at h
 | (n,j)::r,h=>by
   rw [List.lookup_cons] at h;cases q:x == n with
   | true =>
     rw [q] at h;cases h;exact ⟨n,List.mem_cons_self⟩
   | false =>
     rw [q] at h;obtain ⟨y,hy⟩:=qS h;exact ⟨y,List.mem_cons_of_mem _ hy⟩
theorem qC {X:Cx} {Nc:List Str} {scope:Scope} (own:Nat) (hf:∀ y∈scope.names,y.2≠.free) (hc:∀ y∈scope.names,y.2≠.cell) (hk:scope.kind=.function) (hn:∀ y∈scope.names,y.2=.local->scope.names.lookup y.1=some .local)
   (hl:Nc.length=own):CompTxt X Nc own [] scope [] where
 clos:=closureFor_none hf
 kind:=hk
 nocell:=hc
 names:=hn
 cells:=fun x c h=>by cases h
 has:=fun x h=>by
   have key:∀ k,(relabel scope X.env).names.lookup x=some k->k≠.cell/\k≠.free:=fun k e=>by
     obtain ⟨y,hy⟩:=qS e;obtain ⟨⟨n,k0⟩,hm,e2⟩:=List.mem_map.mp hy;have h1:=hf _ hm;have h2:=hc _ hm;have e3:(k0 == NameKind.free)=false:=(by simpa using h1);simp only [e3,Bool.false_and,Bool.false_eq_true,if_false] at e2;cases e2;exact ⟨h2,h1⟩
   rcases h with h|h
   . exact absurd rfl (key _ h).1
   . exact absurd rfl (key _ h).2
 len:=by simpa using hl
 outer:=fun i x h=>by
   rw [List.getElem?_eq_none (by omega)] at h;cases h
theorem jO {K:PySem.W.Frag} {a:Addr} {xs:List V} {g:TG} {tb:TS} {D:Ends} {σ:St} {H:Hp} (Pv:Nat->St->Hp->Prop) (h0:Pv 0 σ H) (hl:∀ i σ H,i<=xs.length->Pv i σ H->SqL K H a xs)
   (hs:∀ (i:Nat) (x:V) (σ:St) (H:Hp) (N:St->Hp->Prop),(∀ σ' H',Pv (i+1) σ' H'->N σ' H')->xs[i]?=some x->Pv i σ H->g x σ H fun σ2 H2=>tb { D with nx:=N,ct:=N,bk:=D.nx } σ2 H2) (hd:∀ σ H,Pv xs.length σ H->D.nx σ H) :
   ly (Itl K a) D g tb σ H:=AI Pv h0 hl (fun i x σ H hx p=>hs i x σ H (Pv (i+1)) (fun _ _ z=>z) hx p) hd
theorem u7 {K:PySem.W.Frag} {a:Addr} {xs:List V} {g:TG} {tb:TS} {D:Ends} {σ:St} {H:Hp} (Pv:Nat->St->Hp->Prop) (h0:Pv 0 σ H) (hl:∀ i σ H,i<=xs.length->Pv i σ H->SqT K H a xs)
   (hs:∀ (i:Nat) (x:V) (σ:St) (H:Hp) (N:St->Hp->Prop),(∀ σ' H',Pv (i+1) σ' H'->N σ' H')->xs[i]?=some x->Pv i σ H->g x σ H fun σ2 H2=>tb { D with nx:=N,ct:=N,bk:=D.nx } σ2 H2) (hd:∀ σ H,Pv xs.length σ H->D.nx σ H) :
   ly (Itt K a) D g tb σ H:=wZ Pv h0 hl (fun i x σ H hx p=>hs i x σ H (Pv (i+1)) (fun _ _ z=>z) hx p) hd
theorem mL {lo:Int} {n:Nat} {g:TG} {tb:TS} {D:Ends} {σ:St} {H:Hp} (Pv:Nat->St->Hp->Prop) (h0:Pv 0 σ H)
   (hs:∀ (i:Nat) (σ:St) (H:Hp) (N:St->Hp->Prop),(∀ σ' H',Pv (i+1) σ' H'->N σ' H')->i<n->Pv i σ H->g (.int (lo+i)) σ H fun σ2 H2=>tb { D with nx:=N,ct:=N,bk:=D.nx } σ2 H2) (hd:∀ σ H,Pv n σ H->D.nx σ H) :
   ly (Itr lo n) D g tb σ H:=zy Pv h0 (fun i σ H hi p=>hs i σ H (Pv (i+1)) (fun _ _ z=>z) hi p) hd
theorem Cy {c:TT} {tb:TS} {D:Ends} {σ:St} {H:Hp} (W:Nat->St->Hp->Prop) (n0:Nat) (h0:W n0 σ H)
   (hs:∀ (n:Nat) (σ:St) (H:Hp) (N:St->Hp->Prop),(∀ n' σ' H',n'<n->W n' σ' H'->N σ' H')->(∀ σ' H',N σ' H'->∃ m',m'<n/\W m' σ' H')->W n σ H ->
     c σ H fun b H1=>if b=true then ∃ N:St->Hp->Prop,(∀ σ' H',N σ' H'->∃ m',m'<n/\W m' σ' H')/\tb { D with nx:=N,ct:=N,bk:=D.nx } σ H1 else D.nx σ H1):zn c tb D σ H :=
 ⟨W,⟨n0,h0⟩,fun n σ H w=>hs n σ H (fun σ' H'=>∃ m',m'<n/\W m' σ' H') (fun n' _ _ hn w'=>⟨n',hn,w'⟩) (fun _ _ z=>z) w⟩
theorem p60:(0:Int)<10^(60:Int).toNat:=Int.pow_pos (by decide)
theorem wY {a:Int} {n:Nat} (h:a.natAbs<2^n):Builtin.Int.intBits a<=n:=by
 unfold Builtin.Int.intBits;by_cases z:a=0
 . subst z;simp
 . have hz:(a == 0)=false:=by simpa using z
   rw [hz];simp only [Bool.false_eq_true,if_false];have:=(Nat.log2_lt (by omega)).mpr h;omega
theorem yO {a b:Int} (ha:a.natAbs<2^4000) (hb:b.natAbs<2^4000):IntMulOk a b :=
 IntMulOk.of_bits (Nat.le_trans (wY ha) (by decide)) (Nat.le_trans (wY hb) (by decide))
theorem qo {a b:Int} {n:Nat} (ha:a.natAbs<2^n) (hb:b.natAbs<2^n):(a+b).natAbs<2^(n+1):=by
 have:=Int.natAbs_add_le a b;rw [Nat.pow_succ];omega
theorem mE {a b:Int} {m n:Nat} (ha:a.natAbs<2^m) (hb:b.natAbs<2^n):(a*b).natAbs<2^(m+n):=by
 rw [Int.natAbs_mul,Nat.pow_add];exact Nat.mul_lt_mul'' ha hb
theorem fw {a:Int} {m n:Nat} (h:a.natAbs<2^m) (hm:m<=n):a.natAbs<2^n:=Nat.lt_of_lt_of_le h (Nat.pow_le_pow_right (by decide) hm)
theorem AA:(10^(60:Int).toNat:Int).natAbs<2^200:=by decide +kernel
theorem Ax {c M:Int} {n:Nat} (h0:0<M) (h:M.natAbs<2^n):(c % M).natAbs<2^n:=by
 have h1:=Int.emod_nonneg c (Int.ne_of_gt h0);have h2:=Int.emod_lt_of_pos c h0;omega
theorem zz (c i:Int) (h0:0<=i) (h1:i<=1000000):(c % 10^(60:Int).toNat+3).natAbs<2^300/\(16180339887498948482045868343656381177203+2*i*i).natAbs<2^300 /\
   ((c % 10^(60:Int).toNat+3)*(16180339887498948482045868343656381177203+2*i*i)+6151*i).natAbs<2^4000:=by
 have hi:i.natAbs<2^20:=by omega
 have a1:(c % 10^(60:Int).toNat+3).natAbs<2^201:=qo (Ax p60 AA) (by decide +kernel);have b1:(2*i*i).natAbs<2^199:=fw (mE (mE (a:=2) (m:=2) (by decide) hi) hi) (by decide);have b2:(16180339887498948482045868343656381177203+2*i*i).natAbs<2^200:=qo (by decide +kernel) b1;have c1:(6151*i).natAbs<2^401:=fw (mE (a:=6151) (m:=20) (by decide) hi) (by decide);exact ⟨fw a1 (by decide),fw b2 (by decide),fw (qo (mE a1 b2) c1) (by decide)⟩
open Pb
def bN (r:Road):List V:=[.int r.a,.int r.b,.int r.t,.int r.u]
abbrev RoadsAt (H:Hp):List Addr->List Road->Prop:=Paired fun p r=>H p=some (.tup (bN r))
theorem RoadsAt.same {H H':Hp} (e:Same H H') {ps:List Addr} {rs:List Road} (h:RoadsAt H ps rs):RoadsAt H' ps rs:=Paired.imp' (fun p r q=>e p _ q) h
theorem RoadsAt.get {H:Hp}:∀ {ps:List Addr} {rs:List Road} {i:Nat} {x:V},RoadsAt H ps rs->(ps.map V.ref)[i]?=some x->∃ p r,x=.ref p/\ps[i]?=some p/\rs[i]?=some r/\H p=some (.tup (bN r))
 | _,_,i,x,.nil,e=>by simp at e
 | _,_,0,x,.cons (a:=p) (b:=r) h hs,e=>⟨p,r,by simpa using e.symm,by simp,by simp,h⟩
 | a::l1,_,i+1,x,.cons h hs,e=>by
   have e':(List.map V.ref l1)[i]?=some x:=by simpa using e
   obtain ⟨p,r,h1,h2,h3,h4⟩:=RoadsAt.get hs e';exact ⟨p,r,h1,by simpa using h2,by simpa using h3,h4⟩
theorem Same.tup {K:PySem.W.Frag} {H H':Hp} {a:Addr} {xs:List V} (e:Same H H') (h:SqT K H a xs):SqT K H' a xs:=by
 rcases h with (h|⟨o,h⟩)|h
 . exact .inl (.inl (e _ _ h))
 . exact .inl (.inr ⟨o,e _ _ h⟩)
 . exact .inr h
theorem Same.sqX {K:PySem.W.Frag} {H H':Hp} {c:Bool} {a:Addr} {xs:List V} (e:Same H H') (h:SqX K c H a xs):SqX K c H' a xs:=by
 cases c
 . exact Same.tup e h
 . exact Same.seq e h
theorem Same.new {H:Hp} {p:Addr} (o:HO) (h:H p=none):Same H (upd H p o):=fun b u e=>by rw [ao (az e h)];exact e
end L2
set_option Elab.async false
set_option linter.all false
set_option maxRecDepth 100000
namespace L2
open PySem PySem.Spec PyProof.Rows
abbrev bmV:List Value:=[.type "ValueError",.type "Exception",.type "BaseException",.type "object"]
structure XCls (K:PySem.W.Frag) (C:Addr):Prop where
 ty:PySem.W.typeIn K (.ref C)=some (.type "type")
 ga:PySem.W.findIn K (.ref C) "__getattribute__"=some (some (.builtin "BaseException.__getattribute__"))
 gt:PySem.W.findIn K (.ref C) "__getattr__"=some none
 cl:PySem.W.findIn K (.ref C) "__class__"=some (some (.builtin "object.__class__"))
 gs:PySem.W.specialIn K (.builtin "object.__class__") "__get__"=some (some (.builtin "getset_descriptor.__get__"))
 tk:PySem.W.takesIn K (.builtin "object.__class__")=some true
 mo:PySem.W.mroIn K C (.type "object")=some true
 mb:PySem.W.mroIn K C (.type "BaseException")=some true
 hd:PySem.W.hasDictIn K C=true
 sf:PySem.W.mroIn K C (.ref C)=some true
theorem yK {K:PySem.W.Frag} {C:Addr} {od:Option Obj} {name:Str} {a g:Value} (hc:(PySem.W.clsIn K C).isSome=true) (ha:PySem.W.findIn K (.ref C) name=some (some a)) (hg:PySem.W.specialIn K a "__get__"=some (some g)) (ht:PySem.W.takesIn K a=some true) :
   PySem.W.findObj K C od name=some (.bind g a):=by
 obtain ⟨cd,hc⟩:=Option.isSome_iff_exists.mp hc;unfold PySem.W.findObj;rw [hc,Option.bind_some,ha,Option.bind_some];simp [hg,ht]
section
variable {prog:Program} {w:World} {A:Around} {E:Value->Shared->Prop} {s:Shared} {K:PySem.W.Frag} {x C:Addr} {ox:Obj} {od:Option Obj}
theorem zC {M:Model} {nv:Value} {Q:Unit->Shared->Prop} (X:K.In s.heap) (I:PySem.W.InstAt s.heap x ox C od) (c:XCls K C) (h:Q () s):wpAny M A (checkBuiltinCall "BaseException.__getattribute__" ⟨[.ref x,nv],[]⟩) Q E s:=by
 obtain ⟨hh,g,dr,t,os⟩:=s;have hk:builtinKind "BaseException.__getattribute__"=some .slot:=by decide +kernel
 have hs:splitId "BaseException.__getattribute__"=some ("BaseException","__getattribute__"):=by decide +kernel
 have L0:=I.type (M:=M);have L1:=PySem.W.looks_mroIn (M:=M) X c.mb;have ha:=F.args_bexc_ga (.ref x) nv;simp only [checkBuiltinCall,hk,hs];unfold isInstance
 repeat (first|lk|wp_step)
 exact h
theorem yN {Q:Option Value->Shared->Prop} (X:K.In s.heap) (I:PySem.W.InstAt s.heap x ox C od) (c:XCls K C) (h:Q (some (.ref C)) { s with toks:=s.toks+1 }):wpAny (model prog w) A (getAttr? (.ref x) "__class__") Q E s:=by
 obtain ⟨hh,g,dr,t,os⟩:=s;have hc:(PySem.W.clsIn K C).isSome=true:=by
   obtain ⟨cd,e,_⟩:=PySem.W.any_some c.hd;rw [e]
   rfl
 have L0:=I.type (M:=model prog w);have L1:=PySem.W.looks_findIn (M:=model prog w) X c.ga;have L2:=PySem.W.looks_findIn (M:=model prog w) X c.gt;have L3:=PySem.W.looks_find (M:=model prog w) X I (yK (od:=od) hc c.cl c.gs c.tk);have n2:(Value.builtin "BaseException.__getattribute__" == Value.builtin "object.__getattribute__")=false:=by decide +kernel
 have n1:(onTheHeap (Value.ref C) && Value.builtin "BaseException.__getattribute__" == Value.builtin "object.__getattribute__")=false:=by rw [n2];rfl
 have b1:=F.excAttr_ValueError.ga.bind (.ref x);unfold getAttr? getAttrBy? getAttrBy;refine wpAny_bind (wpAny_mkText (wpAny_bind (wpAny_attempt (wpAny_holding (wpAny_bind (L0.at (wpAny_bind (L1.at ?_))))))));dsimp only;rw [n1];simp only [Bool.false_eq_true,if_false];unfold getAttrByItsOwn hookBefore callGetattribute boundAndCalled;simp only [onTheHeap,Bool.and_false,Bool.false_eq_true,if_false,if_true];refine wpAny_bind (L2.at (wpAny_bind (wpAny_attempt (wpAny_holding (wpAny_bind (wpAny_of_eq b1 ?_))))));refine wpAny_call (codeAny_call_builtin F.excAttr_ValueError.ga.plain F.entry_bexc_ga (zC X I c ?_));unfold Builtin.«object.__getattribute__»
 repeat lk
 refine wpAny_run (h:=none) (PySem.W.class_get (s:=⟨hh,g,dr,t+1,os⟩) (ox:=ox) (od:=od) X I c.mo ?_);refine wpAny_pure (wpAny_pure ?_);exact PySem.W.handed_on rfl (wpAny_pure h)
theorem BN (c:XCls K C):PySem.W.KitX K (.ref x) (.ref C) (fun h=>PySem.W.InstAt h x ox C od) where
 ty:=fun _ _ _ I=>I.type
 it:=fun _ _ X _=>by
   obtain ⟨cd,e,_⟩:=PySem.W.any_some c.hd;unfold PySem.W.clsIn at e;split at e
   . rename_i ho
     intro A' Q' E' s' k q;unfold isType loadHead;exact wpAny_bind (wpAny_loadPart (k _ _ (X _ _ ho)) (wpAny_pure q))
   . cases e
 ne:=fun h tp dd its n sl X htp=>by
   obtain ⟨cd,e,_⟩:=PySem.W.any_some c.hd;refine Bool.eq_false_iff.mpr fun q=>?_;have z:C=tp:=Value.ref.inj (beq_iff_eq.mp q);subst z;unfold PySem.W.clsIn at e;split at e
   . rename_i ho
     cases (X _ _ ho).symm.trans htp
   . cases e
 ca:=fun X I k=>yN X I c k
end
end L2
set_option Elab.async false
set_option linter.all false
set_option maxRecDepth 100000
namespace L2
open PySem PySem.Spec PyProof.Rows
def fJ (h:Heap) (ea:Addr) (cls:Value) (od:Option Addr) (head:Value):Prop:=∃ oe vs,h.get? ea=some oe/\oe.cls=cls/\oe.dict=od/\oe.data=.fields vs/\vs[1]?=some head/\vs[2]?=some .none
def TbO (h:Heap) (T:Addr) (fl:Value):Prop:=∃ oT ts,h.get? T=some oT/\oT.data=.fields ts/\ts[3]?=some fl
structure Err (h:Heap) (ea T:Addr) (cls:Value) (od:Option Addr) (fl:Value):Prop where
 e:fJ h ea cls od (.ref T)
 t:TbO h T fl
 ne:T≠ea
structure Kept (fs xs:List Addr) (h h':Heap):Prop where
 keep:∀ b o,h.get? b=some o->b ∉ fs->b ∉ xs->h'.get? b=some o
 slot:∀ b o,h.get? b=some o->b∈fs->b ∉ xs->∃ sl,h'.get? b=some { o with slots:=sl }
 there:∀ b o,h.get? b=some o->∃ o',h'.get? b=some o'
theorem Kept.mono {fs xs ys:List Addr} {h h':Heap} (k:Kept fs xs h h') (s:∀ b∈xs,b∈ys):Kept fs ys h h':=⟨fun b o e f x=>k.keep b o e f fun z=>x (s b z),fun b o e f x=>k.slot b o e f fun z=>x (s b z),k.there⟩
theorem Kept.trans {fs xs:List Addr} {h h1 h2:Heap} (a:Kept fs xs h h1) (b:Kept fs xs h1 h2):Kept fs xs h h2 where
 keep:=fun c o e f x=>b.keep c o (a.keep c o e f x) f x
 slot:=fun c o e f x=>by
   obtain ⟨s1,e1⟩:=a.slot c o e f x;obtain ⟨s2,e2⟩:=b.slot c _ e1 f x;exact ⟨s2,e2⟩
 there:=fun c o e=>by
   obtain ⟨o1,e1⟩:=a.there c o e;exact b.there c o1 e1
theorem Kept.of_all {fs xs:List Addr} {h h':Heap} (k:∀ b o,h.get? b=some o->h'.get? b=some o):Kept fs xs h h':=⟨fun b o e _ _=>k b o e,fun b o e _ _=>⟨o.slots,k b o e⟩,fun b o e=>⟨o,k b o e⟩⟩
theorem qj {fs xs:List Addr} {h:Heap} {a:Addr} {oa:Obj} {vs:Array Value} {i:Nat} {v:Value} (ha:h.get? a=some oa) (hd:oa.data=.fields vs) (hx:a∈xs):Kept fs xs h (h.update a (Obj.mapFields (·.setIfInBounds i v))):=by
 have oth:∀ b o,h.get? b=some o->b ∉ xs->(h.update a (Obj.mapFields (·.setIfInBounds i v))).get? b=some o:=fun b o e x=>by
   rw [Heap.get?_update_other _ _ (fun (z:a=b)=>x (z ▸ hx))];exact e
 refine ⟨fun b o e _ x=>oth b o e x,fun b o e _ x=>⟨o.slots,oth b o e x⟩,fun b o e=>?_⟩;by_cases z:b=a
 . subst z;exact ⟨_,Heap.get?_update_self _ ha (Obj.isFreed_of_fields (Obj.data_mapFields hd _))⟩
 . rw [Heap.get?_update_other _ _ (Ne.symm z)];exact ⟨o,e⟩
theorem An {h:Heap} {ea:Addr} {cls hd v:Value} {od:Option Addr} (e:fJ h ea cls od hd):fJ (h.update ea (Obj.mapFields (·.setIfInBounds 1 v))) ea cls od v:=by
 obtain ⟨oe,vs,h1,h2,h3,h4,h5,h6⟩:=e;have sz:1<vs.size:=(Array.getElem?_eq_some_iff.mp h5).1;refine ⟨_,_,Heap.get?_update_self _ h1 (Obj.isFreed_of_fields (Obj.data_mapFields h4 _)),?_,?_,Obj.data_mapFields h4 _,by simp [sz],by rw [Array.getElem?_setIfInBounds_ne (by decide)];exact h6⟩
 . rw [<- h2];exact Obj.cls_mapFields _ _
 . rw [<- h3];obtain ⟨c,d,dt,sl⟩:=oe;cases dt <;> rfl
theorem rz {h:Heap} {ea a:Addr} {cls hd:Value} {od:Option Addr} {f:Obj->Obj} (e:fJ h ea cls od hd) (ne:a≠ea):fJ (h.update a f) ea cls od hd:=by
 obtain ⟨oe,vs,h1,h2⟩:=e;exact ⟨oe,vs,by rw [Heap.get?_update_other _ _ ne];exact h1,h2⟩
theorem sN {h h':Heap} {ea:Addr} {cls hd:Value} {od:Option Addr} (e:fJ h ea cls od hd) (k:∀ o,h.get? ea=some o->h'.get? ea=some o):fJ h' ea cls od hd:=by
 obtain ⟨oe,vs,h1,h2⟩:=e;exact ⟨oe,vs,k _ h1,h2⟩
theorem zb {h base:Heap} {ea:Addr} {cls hd:Value} {od:Option Addr} {l:List Env} (e:fJ h ea cls od hd) (f:h.FunFrames base l):ea ∉ frs l:=fun z=>by
 obtain ⟨oe,vs,h1,_,_,h4,_⟩:=e;obtain ⟨_,o,ho,hn⟩:=f.mem z;rw [h1] at ho;cases ho;exact hn vs h4
theorem zI {h base:Heap} {T:Addr} {fl:Value} {l:List Env} (e:TbO h T fl) (f:h.FunFrames base l):T ∉ frs l:=fun z=>by
 obtain ⟨oe,vs,h1,h4,_⟩:=e;obtain ⟨_,o,ho,hn⟩:=f.mem z;rw [h1] at ho;cases ho;exact hn vs h4
section
variable {M:Model} {A:Around} {E:Value->Shared->Prop} {s:Shared} {Q:Unit->Shared->Prop} {fs:List Addr} {ea T L:Addr} {cls fl hd:Value} {od:Option Addr} {base:Heap} {env:Env} {outer:List Env}
theorem pr (r:Err s.heap ea T cls od fl) (h:∀ h',Err h' ea T cls od .none->Kept fs [T] s.heap h'->Q () { s with heap:=h' }):wpAny M A (setFlight (.ref ea) none) Q E s:=by
 obtain ⟨⟨oe,vs,h1,h2,h3,h4,h5,h6⟩,⟨oT,ts,t1,t2,t3⟩,ne⟩:=r;have sz:3<ts.size:=(Array.getElem?_eq_some_iff.mp t3).1;unfold setFlight;refine wpAny_bind (wpAny_field h1 h4 h5 ?_);rw [if_pos (by simp:(Value.ref T != Value.none)=true)];refine wpAny_setField t1 t2 sz (h _ ⟨rz ⟨oe,vs,h1,h2,h3,h4,h5,h6⟩ ne,⟨_,_,Heap.get?_update_self _ t1 (Obj.isFreed_of_fields (Obj.data_mapFields t2 _)),Obj.data_mapFields t2 _,by simp [sz]⟩,ne⟩ (qj t1 t2 (by simp)))
theorem uk {head:Value} {hadNext:Bool} (hfr:A.frames=some (env::outer)) (hl:s.heap.FunFrames base (env::outer)) (hf:env.frame=some L) (r:fJ s.heap ea cls od hd)
   (h:∀ h' T',Err h' ea T' cls od (rawInt L)->Kept (frs (env::outer)) [ea] s.heap h'->s.heap.get? T'=none->Q () { s with heap:=h' }) :
   wpAny M A (do let a <- frameOf env;let pl <- entryPlaceOf L hadNext;let b <- EntryCells.newEntry head a .none (rawInt L) .none pl;setField (.ref ea) 1 b) Q E s:=by
 have nf:=zb r hl;refine wpAny_bind (wpAny_frameOf_fun hfr hl hf fun g1 so=>wpAny_bind (wpAny_entryPlaceOf fun pl hpl=>?_));unfold EntryCells.newEntry newFields;refine wpAny_bind (wpAny_newObj_type ?_ (hpl.sizeOk5 _ _ _ _ _));have r1:fJ g1 ea cls od hd:=sN r fun o e=>(so.2.1 ea nf).trans e;generalize ht:({ cls:=.type "traceback",dict:=none,data:=.fields ([head,.ref L,.none,rawInt L,.none]++(if pl.isEmpty then List.replicate 6 Value.none else pl)).toArray }:Obj)=tb;have r2:fJ (g1.push tb) ea cls od hd:=sN r1 fun o e=>Heap.get?_push_of_some _ e;obtain ⟨oe,vs,e1,e2,e3,e4,e5,e6⟩:=id r2;have lt:ea<g1.objs.size:=by
   obtain ⟨_,_,e,_⟩:=r1;exact Heap.lt_size e
 have hT:(g1.push tb).get? g1.objs.size=some tb:=Heap.get?_push_size g1 (by rw [<- ht];rfl);refine wpAny_setField e1 e4 (Array.getElem?_eq_some_iff.mp e5).1 (h _ g1.objs.size ⟨An r2,⟨tb,([head,.ref L,.none,rawInt L,.none]++(if pl.isEmpty then List.replicate 6 Value.none else pl)).toArray,?_,by rw [<- ht],by simp⟩,Nat.ne_of_gt lt⟩ ?_ ?_)
 . rw [Heap.get?_update_other _ _ (Nat.ne_of_lt lt)];exact hT
 . have k1:Kept (frs (env::outer)) [ea] s.heap g1:=⟨fun b o e f _=>(so.2.1 b f).trans e,fun b o e _ _=>so.2.2 b o e,fun b o e=>by
     obtain ⟨sl,z⟩:=so.2.2 b o e;exact ⟨_,z⟩⟩
   exact k1.trans ((Kept.of_all fun b o e=>Heap.get?_push_of_some _ e).trans (qj e1 e4 (by simp)))
 . exact Heap.get?_none_of_le (by rw [so.1];exact Nat.le_refl _)
theorem zV (hfr:A.frames=some (env::outer)) (hl:s.heap.FunFrames base (env::outer)) (hf:env.frame=some L) (r:fJ s.heap ea cls od .none)
   (h:∀ h' T',Err h' ea T' cls od (rawInt L)->Kept (frs (env::outer)) [ea] s.heap h'->s.heap.get? T'=none->Q () { s with heap:=h' }):wpAny M A (noteFrame (.ref ea) env) Q E s:=by
 obtain ⟨oe,vs,e1,e2,e3,e4,e5,e6⟩:=id r;unfold noteFrame;simp only [hf];refine wpAny_bind (wpAny_field e1 e4 e5 ?_);rw [if_neg (by decide)];exact uk hfr hl hf r h
theorem wX (hfr:A.frames=some (env::outer)) (hl:s.heap.FunFrames base (env::outer)) (hf:env.frame=some L) (r:Err s.heap ea T cls od .none)
   (h:∀ h' T',Err h' ea T' cls od (rawInt L)->Kept (frs (env::outer)) [ea,T] s.heap h'->s.heap.get? T'=none->Q () { s with heap:=h' }):wpAny M A (noteFrame (.ref ea) env) Q E s:=by
 have nT:=zI r.t hl;obtain ⟨⟨oe,vs,e1,e2,e3,e4,e5,e6⟩,⟨oT,ts,t1,t2,t3⟩,ne⟩:=id r;unfold noteFrame;simp only [hf];refine wpAny_bind (wpAny_field e1 e4 e5 ?_);rw [if_pos (by simp:(Value.ref T != Value.none)=true)];refine wpAny_bind (wpAny_field t1 t2 t3 ?_);rw [if_neg (by simp [rawInt])];have k1:Kept (frs (env::outer)) [ea,T] s.heap (s.heap.update T (Obj.mapFields (·.setIfInBounds 3 Value.none))):=qj t1 t2 (by simp);refine wpAny_bind (wpAny_setField t1 t2 (Array.getElem?_eq_some_iff.mp t3).1 ?_);refine uk hfr (hl.of_keeps fun b o e nf=>⟨o,?_,rfl⟩) hf (rz r.e ne) fun h' T' r' k2 n=>h h' T' r' (k1.trans (k2.mono (by simp))) ?_
 . by_cases z:b=T
   . subst z;rw [t1] at e;cases e;exact absurd t2 (nf ts)
   . rw [Heap.get?_update_other _ _ (Ne.symm z)];exact e
 . cases q:s.heap.get? T' with
   | none=>rfl
   | some o =>
     obtain ⟨o',z⟩:=k1.there T' o q;rw [z] at n;cases n
theorem zd (hfr:A.frames=some (env::outer)) (hl:s.heap.FunFrames base (env::outer)) (hf:env.frame=some L) (r:fJ s.heap ea cls od .none)
   (h:∀ h' T',Err h' ea T' cls od .none->Kept (frs (env::outer)) [ea] s.heap h'->s.heap.get? T'=none->Q () { s with heap:=h' }):wpAny M A (leaving env (.ref ea)) Q E s:=by
 unfold leaving;refine wpAny_bind (zV hfr hl hf r fun h1 T1 r1 k1 n1=>pr (fs:=frs (env::outer)) (s:={ s with heap:=h1 }) r1 fun h2 r2 k2=>h h2 T1 r2 ⟨fun b o e f x=>k2.keep b o (k1.keep b o e f x) f ?_,fun b o e f x=>?_,fun b o e=>?_⟩ n1)
 . simp only [List.mem_singleton];rintro rfl;rw [n1] at e;cases e
 . obtain ⟨s1,e1⟩:=k1.slot b o e f x;obtain ⟨s2,e2⟩:=k2.slot b _ e1 f (by
     simp only [List.mem_singleton];rintro rfl;rw [n1] at e;cases e)
   exact ⟨s2,e2⟩
 . obtain ⟨o1,e1⟩:=k1.there b o e;exact k2.there b o1 e1
theorem BD (hfr:A.frames=some (env::outer)) (hl:s.heap.FunFrames base (env::outer)) (hf:env.frame=some L) (r:Err s.heap ea T cls od .none)
   (h:∀ h' T',Err h' ea T' cls od .none->Kept (frs (env::outer)) [ea,T] s.heap h'->s.heap.get? T'=none->Q () { s with heap:=h' }):wpAny M A (leaving env (.ref ea)) Q E s:=by
 unfold leaving;refine wpAny_bind (wX hfr hl hf r fun h1 T1 r1 k1 n1=>pr (fs:=frs (env::outer)) (s:={ s with heap:=h1 }) r1 fun h2 r2 k2=>h h2 T1 r2 ⟨fun b o e f x=>k2.keep b o (k1.keep b o e f x) f ?_,fun b o e f x=>?_,fun b o e=>?_⟩ n1)
 . simp only [List.mem_singleton];rintro rfl;rw [n1] at e;cases e
 . obtain ⟨s1,e1⟩:=k1.slot b o e f x;obtain ⟨s2,e2⟩:=k2.slot b _ e1 f (by
     simp only [List.mem_singleton];rintro rfl;rw [n1] at e;cases e)
   exact ⟨s2,e2⟩
 . obtain ⟨o1,e1⟩:=k1.there b o e;exact k2.there b o1 e1
end
def CXe (P:Program) (w:World):CXT:=fun outer H s E e s'=>∃ (ea T:Addr) (cls:Value) (od:Option Addr) (H':Hp),e=.ref ea/\s'.os=s.os/\AllBare s'.gens/\Un (frs outer) [] H H' s.heap s'.heap/\HOk P w H' s'.heap /\
 H' ea=none/\H' T=none/\s.heap.get? ea=none/\s.heap.get? T=none/\Err s'.heap ea T cls od .none/\E cls od H'
theorem bC {P:Program} {w:World}:bO (CXe P w):=fun outer H s e s' h=>by
 obtain ⟨_,_,_,_,_,_,_,_,_,_,_,_,_,_,_,z⟩:=h;exact z
theorem qF {P:Program} {w:World} {H:Hp} {h h':Heap} {fs xs:List Addr} (x:HOk P w H h) (k:Kept fs xs h h') (f:∀ b∈fs,H b=none) (u:∀ b∈xs,H b=none):HOk P w H h':=fun a o e=>by
 refine (x a o e).stay (fun b ob hb q=>k.keep b ob q ?_ ?_) (fun _ q=>q) fun _ _ q=>q
 . intro z;rcases hb with rfl|hb
   . rw [f _ z] at e;cases e
   . rw [f _ z] at hb;cases hb
 . intro z;rcases hb with rfl|hb
   . rw [u _ z] at e;cases e
   . rw [u _ z] at hb;cases hb
theorem ut {P:Program} {w:World} {H:Hp} {h:Heap} {b:Addr} (x:HOk P w H h) (n:h.get? b=none):H b=none:=by
 cases q:H b with
 | none=>rfl
 | some o =>
   have lt:=x.lt q;cases z:h.get? b with
   | some o'=>rw [z] at n;cases n
   | none =>
     exfalso
     have:=(x b o q);cases o with
     | lst xs=>obtain ⟨_,_,_,_,e⟩:=this;rw [n] at e;cases e
     | tup xs=>obtain ⟨_,_,_,ob,e,_⟩:=this;rw [n] at e;cases e
     | dK kvs=>obtain ⟨_,_,_,_,ob,_,_,e,_⟩:=this;rw [n] at e;cases e
     | dT kvs=>obtain ⟨_,_,_,_,ob,_,_,e,_⟩:=this;rw [n] at e;cases e
     | set S m=>obtain ⟨ob,_,_,_,e,_⟩:=this;rw [n] at e;cases e
     | ins C dx fs=>obtain ⟨_,_,_,e,_⟩:=this;rw [n] at e;cases e
     | own y=>obtain ⟨_,e⟩:=this;rw [n] at e;cases e
     | xd fs=>obtain ⟨_,⟨_,_,_,e,_⟩,_⟩:=this;rw [n] at e;cases e
     | rng lo hi=>obtain ⟨_,_,_,e⟩:=this;rw [n] at e;cases e
     | frz ob u=>obtain ⟨e,_⟩:=this;rw [n] at e;cases e
     | tbl ps=>have e:h.get? b=some _:=this;rw [n] at e;cases e
     | met f y=>have e:h.get? b=some _:=this;rw [n] at e;cases e
     | ext φ=>obtain ⟨_,⟨_,e⟩,_⟩:=this;rw [n] at e;cases e
section
variable {P:Program} {w:World} {K:PySem.W.Frag} {mg:Str->Option Value} {base:Heap} {N:List Str} {qual:Str} {scope:Scope} {f:Addr} {cd:Value} {A:Around} {outer:List Env} {s:Shared} {H:Hp} {E:XK}
theorem u8 {CX:CXT} {pins:List (Addr × Obj)} {σ:St} {H':Hp} {s':Shared} {h':Heap} {xs:List Addr} (J:Inv (g5 CX P w K mg base N qual scope f cd A outer s H E) pins σ H' s') (k:Kept (frs (envOfC qual scope s.heap.objs.size f cd::outer)) xs s'.heap h') (nx:∀ b∈xs,s.heap.get? b=none) :
   Un (frs outer) [] H H' s.heap h':=by
 have b0:Un (frs outer) [] H H' s.heap s'.heap:=J.base;have nl:∀ b o,s.heap.get? b=some o->b ∉ xs:=fun b o e z=>by rw [nx b z] at e;cases e
 have nf:∀ b o,s.heap.get? b=some o->b ∉ frs outer->b ∉ frs (envOfC qual scope s.heap.objs.size f cd::outer):=fun b o e z m=>by
   unfold frs at m z;rw [List.filterMap_cons] at m;have:(envOfC qual scope s.heap.objs.size f cd).frame=some s.heap.objs.size:=rfl;rw [this] at m;rcases List.mem_cons.mp m with m|m
   . exact absurd (Heap.lt_size e) (by rw [m];exact Nat.lt_irrefl _)
   . exact z m
 refine ⟨fun b o e n hf hx=>k.keep b o (b0.keep b o e n hf hx) (nf b o e hf) (nl b o e),fun b o e n hf hx=>?_,b0.free,fun b o e hx=>?_,b0.tups,b0.frzs,b0.tbls⟩
 . obtain ⟨sl,e1⟩:=b0.slot b o e n hf hx;by_cases m:b∈frs (envOfC qual scope s.heap.objs.size f cd::outer)
   . obtain ⟨s2,e2⟩:=k.slot b _ e1 m (nl b o e);exact ⟨s2,e2⟩
   . exact ⟨sl,k.keep b _ e1 m (nl b o e)⟩
 . obtain ⟨o1,e1⟩:=b0.there b o e hx;exact k.there b o1 e1
theorem gW {CX:CXT} {pins:List (Addr × Obj)} {σ:St} {H':Hp} {s':Shared} (J:Inv (g5 CX P w K mg base N qual scope f cd A outer s H E) pins σ H' s') {b:Addr} (n:s'.heap.get? b=none):s.heap.get? b=none:=by
 cases q:s.heap.get? b with
 | none=>rfl
 | some o =>
   have b0:Un (frs outer) [] H H' s.heap s'.heap:=J.base;obtain ⟨o',e⟩:=b0.there b o q (by simp);rw [n] at e;cases e
theorem mS:rK (CXe P w) (g5 (CXe P w) P w K mg base N qual scope f cd A outer s H E) E:=by
 intro pins σ H1 s1 e s' I h;obtain ⟨ea,T,cls,od,H',rfl,os,bare,un,hok,n1,n2,f1,f2,er,q⟩:=h;have J:=I.call' (ch:=[]) os un hok bare (by simp);refine BD (base:=base) J.ok.frames J.stack rfl er fun h' T' er' k nT=>?_;have fr:∀ b∈frs (envOfC qual scope s.heap.objs.size f cd::outer),H' b=none:=J.stkFree;refine ⟨ea,T',cls,od,H',rfl,J.os,J.bare,u8 J k ?_,qF hok k fr ?_,n1,ut hok nT,gW I f1,gW J nT,er',q⟩
 . intro b hb;simp only [List.mem_cons,List.not_mem_nil,or_false] at hb;rcases hb with rfl|rfl
   . exact gW I f1
   . exact gW I f2
 . intro b hb;simp only [List.mem_cons,List.not_mem_nil,or_false] at hb;rcases hb with rfl|rfl
   . exact n1
   . exact n2
end
def zi (X:Cx) (E:XK):Prop:=∀ (pins:List (Addr × Obj)) (σ:St) (H:Hp) (s:Shared) (ea:Addr) (cls:Value) (od:Option Addr) (h':Heap) (tk:Nat),Inv X pins σ H s->(∀ b o,s.heap.get? b=some o->h'.get? b=some o)->s.heap.get? ea=none->fJ h' ea cls od .none->E cls od H ->
 X.xe (.ref ea) { s with heap:=h',toks:=tk }
section
variable {P:Program} {w:World} {K:PySem.W.Frag} {mg:Str->Option Value} {base:Heap} {N:List Str} {qual:Str} {scope:Scope} {f:Addr} {cd:Value} {A:Around} {outer:List Env} {s:Shared} {H:Hp} {E:XK}
theorem iT:zi (g5 (CXe P w) P w K mg base N qual scope f cd A outer s H E) E:=by
 intro pins σ H1 s1 ea cls od h' tk I kp nw er q;have J:=I.kept (t':=tk) kp;refine zd (base:=base) J.ok.frames J.stack rfl er fun h2 T' er' k nT=>?_;have fr:∀ b∈frs (envOfC qual scope s.heap.objs.size f cd::outer),H1 b=none:=J.stkFree;refine ⟨ea,T',cls,od,H1,rfl,J.os,J.bare,u8 J k ?_,qF J.hok k fr ?_,ut I.hok nw,ut J.hok nT,gW I nw,gW J nT,er',q⟩
 . intro b hb;rw [List.mem_singleton.mp hb];exact gW I nw
 . intro b hb;rw [List.mem_singleton.mp hb];exact ut I.hok nw
end
end L2
set_option Elab.async false
set_option linter.all false
set_option maxRecDepth 100000
namespace L2
open PySem PySem.Spec PyProof.Rows
def Ah (K:PySem.W.Frag) (C:Addr):Prop:=∃ (nm qn:Str) (N:Addr) (bs bm:List Value) (hdct:Bool) (sn:List Str) (sub:List Value) (ab:Bool) (col:Option Bool) (dd:Option Addr) (k0 k1 k2 k3 k5:Option Value),
   K.lookup C=some (excClassObj nm qn C N bs bm hdct sn sub ab col dd k0 k1 k2 k3 k5 "ValueError.__new__")/\PySem.W.nsOkIn K N=true/\PySem.W.nsIn K N "__init__"=some none/\PySem.W.tailIn K bmV bm=true
theorem CC {K:PySem.W.Frag} {C:Addr} {o:Obj} (nm qn:Str) (N:Addr) (bs bm:List Value) (hdct:Bool) (sn:List Str) (sub:List Value) (ab:Bool) (col:Option Bool) (dd:Option Addr) (k0 k1 k2 k3 k5:Option Value) (l:K.lookup C=some o)
   (e:o=excClassObj nm qn C N bs bm hdct sn sub ab col dd k0 k1 k2 k3 k5 "ValueError.__new__") (a:PySem.W.nsOkIn K N=true) (b:PySem.W.nsIn K N "__init__"=some none) (c:PySem.W.tailIn K bmV bm=true):Ah K C:=by
 subst e;exact ⟨_,_,_,_,_,_,_,_,_,_,_,_,_,_,_,_,l,a,b,c⟩
def zE (C:Addr) (E:XK) (t:TA):TS:=fun _ σ H=>t σ H fun vs H1=>vs.length<=sizeLine/\E (.ref C) none H1
section
variable {X:Cx} {x:Str} {np cpos pos:Pos} {e0:Expr} {es:List Expr} {t:TA} {C:Addr} {E:XK}
theorem gU (q:Ah X.K C) (hc:X.calm=true) (hR:zi X E) (hg:Gl X x) (hm:X.mg x=some (.ref C)) (ha:PA X (e0::es) t) (hdb:(x == ("__debug__":Str))=false:=by decide)
   (he:starEach (e0::es) X.env=(false,eval e0 X.env)::starEach es X.env:=by rfl) (hpl:(backTo cpos (starEach es X.env)).any (·.1)=false:=by rfl):PS X (.Raise (some (.Call (.Name x np) (e0::es) [] cpos)) none pos) (zE C E t):=by
 intro pins s σ H D I h;obtain ⟨nm,qn,N,bs,bm,hdct,sn,sub,ab,col,dd,k0,k1,k2,k3,k5,ho,z5,z6,z4⟩:=q;have B:=I.mod.kin;have T0:=PySem.W.tail_of_in B z4;have N0:X.base.Ns N (X.base.nsMap N):=.of_isNs (PySem.W.isNs_of_in B z5);have hp:(backTo cpos (starEach (e0::es) X.env)).any (·.1)=false:=by
   rw [he];show (false || (backTo cpos (starEach es X.env)).any (·.1))=false;rw [hpl]
   rfl
 refine wpAny_Raise_call_subT (C:=C) (nm:=nm) (q:=qn) (N:=N) (bs:=bs) (bm:=bm) (hdct:=hdct) (sn:=sn) (sub:=sub) (ab:=ab) (col:=col) (dd:=dd) (k0:=k0) (k1:=k1) (k2:=k2) (k3:=k3) (k5:=k5) PySem.F.excBase_ValueError
   (T0.hasType (by decide +kernel)) (I.ok.hd hc) hp (PySem.W.nsMap_none_of_in B z5 z6) (iP I hg hm ⟨rfl,?_⟩ hdb)
 have g:=ha cpos pins s σ H _ I h;rw [he] at g ⊢;refine Calls.evalArgs_plain (thn g fun us s1 ⟨vs,H1,I1,r1,q1⟩=>⟨rfl,by show us.length<=_;rw [<- r1.length];exact q1.1,I1.bk _ _ (B _ _ ho),N0.keeps I1.bk,T0.keeps I1.bk,fun h' ea m=>?_⟩);obtain ⟨tt,m1,_,_⟩:=m.there;exact hR pins σ H1 s1 ea (.ref C) none h' s1.toks I1 m.keeps m.new ⟨_,_,m1,rfl,rfl,rfl,rfl,rfl⟩ q1.2
end
def XP (CX:CXT) (X:Cx) (pins:List (Addr × Obj)) (σ:St) (E:XK) (e:Value) (s':Shared):Prop:=∃ H s,Inv X pins σ H s/\CX X.stack H s E e s'
def PEx (CX:CXT) (X:Cx) (e:Expr) (t:XK->TE):Prop :=
 ∀ (E:XK) (pins:List (Addr × Obj)) (s:Shared) (σ:St) (H:Hp) (Q:VK),Inv X pins σ H s->t E σ H Q->wpAny (model X.prog X.w) X.A (eval e X.env) (EP X pins σ Q) (XP CX X pins σ E) s
abbrev XS (CX:CXT) (X:Cx) (pins:List (Addr × Obj)) (EK:St->XK) (e:Value) (s':Shared):Prop:=∃ σ,XP CX X pins σ (EK σ) e s'
def PSx (CX:CXT) (X:Cx) (st:Stmt) (t:(St->XK)->TS):Prop :=
 ∀ (EK:St->XK) (pins:List (Addr × Obj)) (s:Shared) (σ:St) (H:Hp) (D:Ends),Inv X pins σ H s->t EK D σ H->wpAny (model X.prog X.w) X.A (exec st X.env) (SP X pins D) (XS CX X pins EK) s
def Dp (CX:CXT) (X:Cx) (st:List Stmt) (t:(St->XK)->TS):Prop :=
 ∀ (EK:St->XK) (pins:List (Addr × Obj)) (s:Shared) (σ:St) (H:Hp) (D:Ends),Inv X pins σ H s->t EK D σ H->wpAny (model X.prog X.w) X.A (execs st X.env) (SP X pins D) (XS CX X pins EK) s
section
variable {CX:CXT} {X:Cx} {k:Nat} {f C:Addr} {fd:FuncData} {ps:List Str} {sp:Sp} {dvs:List V} {ds:List Value} {x:Str} {p pos:Pos} {e:Expr} {es:List Expr} {te:TE} {t:TA} {st:Stmt} {sts:List Stmt} {ts:TS} {tx ux:(St->XK)->TS} {ex:XK->TE}
theorem Ae (M:Mk X.K C f) (F:FnOk X.prog X.w X.K X.mg X.base CX k f fd ps sp) (hr:Room (k+1) X.A) (hg:Gl X x) (hm:X.mg x=some (.ref C)) (hb:Binds X.K fd ps ds) (hd:Vals dvs ds)
   (ha:PA X.nox (e::es) t) (hdb:(x == ("__debug__":Str))=false:=by decide) (he:starEach (e::es) X.env=(false,eval e X.env)::starEach es X.env:=by rfl) (hpl:(backTo pos (starEach es X.env)).any (·.1)=false:=by rfl) :
   PEx CX X (.Call (.Name x p) (e::es) [] pos) (fun E=>xJ C sp dvs E t):=by
 intro E pins s σ H Q I h;refine wpAny_Call_Name_kw (iP I hg hm ?_ hdb);refine PySem.W.callWith_K (h₀:=X.base) I.ok.mod.kin M.kp (wpAny_mono (ha pos pins s σ H _ (I.wish _) h) (fun us s1 ⟨vs,H1,I1,r,q⟩=>⟨I1.unwish.kIn,?_⟩) fun _ _ z=>False.elim z) he hpl;have J:=I1.unwish;have hq:=q (s1.heap.objs.size+1) s1.heap.objs.size (J.hok.fresh (Nat.le_succ _)) (J.hok.fresh (Nat.le_refl _)) (Nat.ne_of_lt (Nat.lt_succ_self _));have I2:=Inv.made (C:=C) J;have r2:Vals (V.ref (s1.heap.objs.size+1)::(vs++dvs)) (Value.ref (s1.heap.objs.size+1)::(us++ds)):=.cons rfl (r.append hd);have hl:(Value.ref (s1.heap.objs.size+1)::us++ds).length=ps.length:=by
   have e:=r2.length;rw [F.len _ _ _ _ hq] at e;exact e.symm
 refine wpAny_call (Bz (f:=f) J.kIn M.makes M.init (beq_iff_eq.mp M.fn) (codeAny_mono (F.run _ X.stack _ _ ⟨Value.ref (s1.heap.objs.size+1)::us,[]⟩ (Value.ref (s1.heap.objs.size+1)::(us++ds)) _ _ E (hr.make C us [])
   (I2.env0.make C us []) (hb _ (Value.ref (s1.heap.objs.size+1)::us) I2.kIn hl) r2 hq) fun r s' hq'=>?_))
 cases r with
 | error e=>exact ⟨_,_,I2,hq'⟩
 | ok fl =>
   cases fl with
   | ret u =>
     obtain ⟨v,H',I3,rv,ev,q3⟩:=I2.after hq';subst ev;exact ⟨rv,⟨V.ref (s1.heap.objs.size+1),H',I3,rfl,q3⟩⟩
   | next=>exact False.elim hq'
   | brk=>exact False.elim hq'
   | cont=>exact False.elim hq'
theorem Bt (he:PEx CX X e ex) (hs:swapsWith e none pos.line X.env=pure false:=by rfl):PSx CX X (.Expr e pos) (fun EK D σ H=>ex (EK σ) σ H fun _ H1=>D.nx σ H1):=by
 intro EK pins s σ H D I h;exact wpAny_Expr_any (wpAny_mono (he (EK σ) pins s σ H _ I h) (fun v s1 ⟨x,H1,I1,r1,q1⟩=>⟨σ,H1,I1,q1⟩) fun e s' z=>⟨σ,z⟩) I.quiet hs
theorem BQ (h1:PSx CX X st tx):Dp CX X [st] tx:=by
 intro EK pins s σ H D I h;refine wpAny_execs_cons (thn (h1 EK pins s σ H D I h) fun f s1 q=>?_);cases f with
 | next=>exact wpAny_execs_nil q
 | ret v=>exact q
 | brk=>exact q
 | cont=>exact q
end
end L2
set_option Elab.async false
set_option linter.all false
set_option maxRecDepth 100000
namespace L2
open PySem PySem.Spec PyProof.Rows
abbrev Cx.held (X:Cx) (e:Value):Cx:={ X with A:=X.A.mark (some e),calm:=false }
theorem Cx.Ok.held {X:Cx} (ok:X.Ok) (e:Value):(X.held e).Ok :=
 ⟨ok.mod,ok.kind,ok.glob,ok.blt,ok.above,ok.inj,ok.has,ok.cab,(fun z=>nomatch z),ok.frames,ok.stk,ok.exf,ok.bs,ok.bsz,ok.noex,ok.exfs,ok.funs,ok.frf⟩
theorem Cx.Ok.unheld {X:Cx} {e:Value} (ok:(X.held e).Ok) (hd:X.calm=true->X.A.handled=none):X.Ok :=
 ⟨ok.mod,ok.kind,ok.glob,ok.blt,ok.above,ok.inj,ok.has,ok.cab,hd,ok.frames,ok.stk,ok.exf,ok.bs,ok.bsz,ok.noex,ok.exfs,ok.funs,ok.frf⟩
section
variable {X:Cx} {pins:List (Addr × Obj)} {σ:St} {H:Hp} {s:Shared}
theorem Inv.held (I:Inv X pins σ H s) (e:Value):Inv (X.held e) pins σ H s:=⟨I.ok.held e,I.os,I.bare,I.base,I.loc,I.cell,I.free,I.freeC,I.pin,I.hok,I.len⟩
theorem Inv.unheld {e:Value} (I:Inv (X.held e) pins σ H s) (hd:X.calm=true->X.A.handled=none):Inv X pins σ H s:=⟨I.ok.unheld hd,I.os,I.bare,I.base,I.loc,I.cell,I.free,I.freeC,I.pin,I.hok,I.len⟩
theorem Inv.moved {xs:List Addr} {h':Heap} {tk:Nat} (I:Inv X pins σ H s) (k:Kept (frs X.stack) xs s.heap h') (nx:∀ b∈xs,H b=none/\X.s₀.heap.get? b=none/\b≠X.env.locals/\(∀ x c,X.env.cells.lookup x=some c->c≠b)/\∀ p∈X.pn++pins,p.1≠b) :
   Inv X pins σ H { s with heap:=h',toks:=tk }:=by
 have old:∀ b o,X.s₀.heap.get? b=some o->b ∉ xs:=fun b o e z=>by rw [(nx b z).2.1] at e;cases e
 have nel:∀ b o,X.s₀.heap.get? b=some o->b≠X.env.locals:=fun b o e z=>absurd (Nat.lt_of_lt_of_le (Heap.lt_size e) I.ok.above) (by rw [z];exact Nat.lt_irrefl _);have out:∀ b,b≠X.env.locals->b ∉ X.fs->b ∉ frs X.stack:=fun b h1 h2 z=>(List.mem_cons.mp (I.stkSub b z)).elim h1 h2;have any:∀ b o,s.heap.get? b=some o->b ∉ xs->∃ sl,h'.get? b=some { o with slots:=sl }:=fun b o e z=>by
   by_cases f:b∈frs X.stack
   . exact k.slot b o e f z
   . exact ⟨o.slots,k.keep b o e f z⟩
 have cells:∀ x c v,X.env.cells.lookup x=some c->s.heap.IsCell c v->h'.IsCell c v:=fun x c v e ⟨o,ho,hd⟩=>by
   obtain ⟨sl,q⟩:=any c o ho fun z=>(nx c z).2.2.2.1 x c e rfl;exact ⟨_,q,hd⟩
 refine ⟨I.ok,I.os,I.bare,⟨fun b o e n hf hx=>?_,fun b o e n hf hx=>?_,I.base.free,fun b o e hx=>?_,I.base.tups,I.base.frzs,I.base.tbls⟩,?_,fun x c e=>?_,I.free,I.freeC,fun p hp=>?_,qF I.hok k I.stkFree fun b hb=>(nx b hb).1,I.len⟩
 . exact k.keep b o (I.base.keep b o e n hf hx) (out b (nel b o e) hf) (old b o e)
 . obtain ⟨sl,e1⟩:=I.base.slot b o e n hf hx;obtain ⟨s2,e2⟩:=any b _ e1 (old b o e);exact ⟨s2,e2⟩
 . obtain ⟨o1,e1⟩:=I.base.there b o e hx;exact k.there b o1 e1
 . obtain ⟨m,⟨o,es,ep,ho,r⟩,l⟩:=I.loc;obtain ⟨sl,e1⟩:=any _ o ho fun z=>(nx _ z).2.2.1 rfl;refine ⟨m,⟨_,es,ep,e1,r⟩,fun i x v h1 h2 h3=>?_⟩;obtain ⟨u,r1,l1⟩:=l i x v h1 h2 h3;refine ⟨u,r1,?_⟩;rcases l1 with l1|⟨k1,c,e,z⟩
   . exact .inl l1
   . exact .inr ⟨k1,c,e,cells x c _ e z⟩
 . obtain ⟨v,z⟩:=I.cell x c e;exact ⟨v,cells x c v e z⟩
 . obtain ⟨e,n,ne,nf,d⟩:=I.pin p hp;exact ⟨k.keep p.1 p.2 e (out p.1 ne nf) fun z=>(nx p.1 z).2.2.2.2 p hp rfl,n,ne,nf,d⟩
theorem Inv.young (I:Inv X pins σ H s) {b:Addr} (n:s.heap.get? b=none):X.s₀.heap.get? b=none\/b∈X.ex:=by
 by_cases z:b∈X.ex
 . exact .inr z
 . refine .inl ?_;cases q:X.s₀.heap.get? b with
   | none=>rfl
   | some o =>
     obtain ⟨o',e⟩:=I.base.there b o q z;rw [n] at e;cases e
theorem Inv.apart (I:Inv X pins σ H s) {b:Addr} (n:s.heap.get? b=none):b≠X.env.locals/\(∀ x c,X.env.cells.lookup x=some c->c≠b)/\∀ p∈X.pn++pins,p.1≠b:=by
 refine ⟨?_,fun x c e z=>?_,fun p hp z=>?_⟩
 . rintro rfl;obtain ⟨m,⟨o,es,ep,ho,r⟩,_⟩:=I.loc;rw [n] at ho;cases ho
 . obtain ⟨v,o,ho,hd⟩:=I.cell x c e;rw [z,n] at ho;cases ho
 . obtain ⟨e,_⟩:=I.pin p hp;rw [z,n] at e;cases e
end
section
variable {K:PySem.W.Frag} {C C':Addr} {x:Addr} {ox:Obj} {od:Option Obj} {M:Model} {A:Around} {E:Value->Shared->Prop} {s:Shared} {b:Bool} {Q:Bool->Shared->Prop}
theorem vS (X:K.In s.heap) (hx:∃ o,s.heap.get? x=some o/\o.cls=.ref C) (c':XCls K C') (m:PySem.W.mroIn K C (.ref C')=some b) (h:Q b s):wpAny M A (excMatches (.ref x) (.ref C')) Q E s:=by
 obtain ⟨o,ho,hc⟩:=hx;obtain ⟨hh,g,dr,t,os⟩:=s;have L0:PySem.W.Looks M hh (typeOf (.ref x)) (.ref C):=hc ▸ (PySem.W.Looks.ld ho).andThen .now;have L1:=PySem.W.looks_mroIn (M:=M) X m;have L2:=PySem.W.looks_mroIn (M:=M) X c'.mb;have L3:=PySem.W.looks_typeIn (M:=M) X c'.ty;have L4:PySem.W.Looks M hh (isSubtype (.type "type") (.type "tuple")) false:=.of_pure tc_notTuple;obtain ⟨cd,e,_⟩:=PySem.W.any_some c'.hd;have L5:PySem.W.Looks M hh (isType (.ref C')) true:=by
   unfold PySem.W.clsIn at e;split at e
   . rename_i ho'
     intro A' Q' E' s' k q;unfold isType loadHead;exact wpAny_bind (wpAny_loadPart (k _ _ (X _ _ ho')) (wpAny_pure q))
   . cases e
 unfold excMatches isInstance isExcClass;cases b
 all_goals
   repeat lk
   exact h
end
end L2
set_option Elab.async false
set_option linter.all false
set_option maxRecDepth 100000
namespace L2
open PySem PySem.Spec PyProof.Rows
def ExO (ea:Addr) (cls:Value) (od:Option Addr):HO:=.ext fun h=>∃ oe vs,h.get? ea=some oe/\oe.cls=cls/\oe.dict=od/\oe.data=.fields vs/\vs[2]?=some .none
structure Loose (X:Cx) (pins:List (Addr × Obj)) (H:Hp) (b:Addr):Prop where
 un:H b=none
 new:X.s₀.heap.get? b=none
 loc:b≠X.env.locals
 cel:∀ x c,X.env.cells.lookup x=some c->c≠b
 pin:∀ p∈X.pn++pins,p.1≠b
theorem Loose.all {X:Cx} {pins:List (Addr × Obj)} {H:Hp} {b:Addr} (l:Loose X pins H b):H b=none/\X.s₀.heap.get? b=none/\b≠X.env.locals/\(∀ x c,X.env.cells.lookup x=some c->c≠b)/\∀ p∈X.pn++pins,p.1≠b:=⟨l.un,l.new,l.loc,l.cel,l.pin⟩
section
variable {X:Cx} {pins:List (Addr × Obj)} {σ:St} {H:Hp} {s:Shared}
theorem Inv.trackX {ea:Addr} {cls hd:Value} {od:Option Addr} (I:Inv X pins σ H s) (l:Loose X pins H ea) (e:fJ s.heap ea cls od hd):Inv X pins σ (upd H ea (ExO ea cls od)) s:=by
 obtain ⟨oe,vs,h1,h2,h3,h4,h5,h6⟩:=e;have ne:∀ b,b≠ea->upd H ea (ExO ea cls od) b=H b:=fun b z=>ao z;have nt:∀ b u,H b=some u->upd H ea (ExO ea cls od) b=some u:=fun b u z=>by rw [ne b (az z l.un)];exact z
 refine ⟨I.ok,I.os,I.bare,⟨I.base.keep,I.base.slot,fun b o q n x=>?_,I.base.there,fun b xs q=>nt _ _ (I.base.tups b xs q),fun b o u q=>nt _ _ (I.base.frzs b o u q),fun b ps q=>?_⟩,I.loc,I.cell,?_,fun x c q=>?_,fun p hp=>?_,?_,I.len⟩
 . rw [ne b (by rintro rfl;rw [l.new] at q;cases q)];exact I.base.free b o q n x
 . obtain ⟨more,z⟩:=I.base.tbls b ps q;exact ⟨more,nt _ _ z⟩
 . rw [ne _ (Ne.symm l.loc)];exact I.free
 . rw [ne _ (l.cel x c q)];exact I.freeC x c q
 . obtain ⟨z1,z2,z3,z4,z5⟩:=I.pin p hp;exact ⟨z1,by rw [ne _ (l.pin p hp)];exact z2,z3,z4,z5⟩
 . intro b u q;by_cases z:b=ea
   . subst z;rw [ag] at q;cases q;refine ⟨⟨oe,vs,h1,h2,h3,h4,h6⟩,⟨oe,h1⟩,?_⟩;rintro g1 g2 ⟨o,v,a1,a2⟩ kk;exact ⟨o,v,kk _ a1,a2⟩
   . rw [ne b z] at q;exact (I.hok b u q).stay (fun _ _ _ r=>r) (fun c r=>nt _ _ r) fun c xs r=>nt _ _ r
theorem jF {M:Model} {A:Around} {E:Value->Shared->Prop} {n:Str} {i:Nat} {pos:Pos} {Q:Unit->Shared->Prop} (I:Inv X pins σ H s) (hN:X.N.Nodup) (hi:X.N[i]?=some n) (hl:X.env.scope.names.lookup n=some .local)
   (h:∀ s',Inv X pins (σ.set i none) H s'->Q () s'):wpAny M A (do bindName X.env n .none;unbindBehindTheSuite X.env n pos) Q E s:=by
 have hcls:(X.env.scope.kind == .class || (X.env.scope.kind == .module && X.env.locals != X.env.globals))=false:=by rw [I.ok.kind];rfl
 have hiσ:i<σ.length:=by rw [I.len];exact (List.getElem?_eq_some_iff.mp hi).1
 refine wpAny_bind (wpAny_bindName (m8 (v:=V.non) I hN hi (.inl hl) rfl (fun s1 I1=>?_) (.inr hl)));obtain ⟨m,hn,l⟩:=id I1.loc;have hv:m n=some Value.none:=by
   obtain ⟨u,r,q⟩:=l i n .non hi (by rw [List.getElem?_set_self hiσ]) (.inl hl);cases (show u=Value.none from r);rcases q with ⟨_,q⟩|⟨q,_⟩
   . exact q
   . rcases q with q|q <;> (have z:X.env.scope.names.lookup n=_:=q;rw [hl] at z;cases z)
 unfold unbindBehindTheSuite;refine wpAny_onRaise (wpAny_unbindName_local hl hn hv hcls fun h' u hn' hs=>h _ ?_);have cne:=I1.cne;have far:∀ b o,X.s₀.heap.get? b=some o->b≠X.env.locals:=fun b o e=>Nat.ne_of_lt (Nat.lt_of_lt_of_le (Heap.lt_size e) I1.ok.above);have at_:∀ b,b≠X.env.locals->h'.get? b=s1.heap.get? b:=fun b z=>hs.2 b z;refine ⟨I1.ok,I1.os,I1.bare,⟨fun b o e n hb hx=>?_,fun b o e n hb hx=>?_,I1.base.free,fun b o e hx=>?_,I1.base.tups,I1.base.frzs,I1.base.tbls⟩,⟨_,hn',fun j y v e1 e2 e3=>?_⟩,fun y c e=>?_,I1.free,I1.freeC,fun p hp=>?_,fun b ob e=>?_,by simpa using I.len⟩
 . exact (at_ b (far b o e)).trans (I1.base.keep b o e n hb hx)
 . obtain ⟨sl,q⟩:=I1.base.slot b o e n hb hx;exact ⟨sl,(at_ b (far b o e)).trans q⟩
 . obtain ⟨o',q⟩:=I1.base.there b o e hx;exact ⟨o',(at_ b (far b o e)).trans q⟩
 . by_cases hj:j=i
   . subst hj;rw [List.getElem?_set_self hiσ] at e2;cases e2
   . have hy:y≠n:=fun z=>hj (qt hN e1 (z ▸ hi));rw [List.getElem?_set_ne (Ne.symm hj)] at e2;obtain ⟨u',r',q⟩:=l j y v e1 (by rw [List.getElem?_set_ne (Ne.symm hj)];exact e2) e3;refine ⟨u',r',?_⟩;rcases q with ⟨k,z⟩|⟨k,c,z1,z2⟩
     . exact .inl ⟨k,by simp [hy,z]⟩
     . exact .inr ⟨k,c,z1,z2.sameBut hs (cne y c z1)⟩
 . obtain ⟨v,z⟩:=I1.cell y c e;exact ⟨v,z.sameBut hs (cne y c e)⟩
 . obtain ⟨z1,z2,z3,z4,z5⟩:=I1.pin p hp;exact ⟨(at_ p.1 z3).trans z1,z2,z3,z4,z5⟩
 . refine (I1.hok b ob e).stay (fun c w hc q=>(at_ c ?_).trans q) (fun _ q=>q) fun _ _ q=>q;rintro rfl;rcases hc with rfl|hc
   . rw [I1.free] at e;cases e
   . rw [I1.free] at hc;cases hc
end
abbrev TH:=Ends->St->Value->Option Addr->Hp->Prop
def PHs (X:Cx) (hs:List ExceptHandler) (th:TH):Prop:=∀ (pins:List (Addr × Obj)) (s:Shared) (σ:St) (H:Hp) (D:Ends) (ea T:Addr) (cls:Value) (od:Option Addr),Inv X pins σ H s->Err s.heap ea T cls od .none->Loose X pins H ea->Loose X pins H T ->
 th D σ cls od H->wpAny (model X.prog X.w) X.A (handleBy (.ref ea) X.env hs) (SP X pins D) X.xe s
def Ends.less (D:Ends) (i:Nat):Ends:={ nx:=fun σ H=>D.nx (σ.set i none) H,rt:=D.rt,bk:=fun σ H=>D.bk (σ.set i none) H,ct:=fun σ H=>D.ct (σ.set i none) H }
def Ee (K:PySem.W.Frag) (C':Addr) (i:Nat) (ts:TS) (tr:TH):TH:=fun D σ cls od H=>∃ C b,cls=.ref C/\PySem.W.mroIn K C (.ref C')=some b /\
 if b=true then ∀ ea,H ea=none->ts (D.less i) (σ.set i (some (.ref ea))) (upd H ea (ExO ea cls od)) else tr D σ cls od H
def tNoHand:TH:=fun _ _ _ _ _=>False
section
variable {X:Cx} {x n:Str} {np pos:Pos} {i:Nat} {C':Addr} {b0:Stmt} {suite:List Stmt} {dU:List ExceptHandler} {ts:TS} {tr:TH}
theorem C2:PHs X [] tNoHand:=fun _ _ _ _ _ _ _ _ _ _ _ _ _ h=>h.elim
def AO (tb:(St->XK)->TS) (th:TH):TS:=fun D σ H=>tb (fun σ' cls od H'=>th D σ' cls od H') D σ H
theorem Dd {body:List Stmt} {h0:ExceptHandler} {hs:List ExceptHandler} {tb:(St->XK)->TS} {th:TH} (hx:X.ex=[]) (hst:X.stack=X.env::X.outer) (hf:X.env.frame=some X.env.locals) (hb:Dp (CXe X.prog X.w) X body tb) (hh:PHs X (h0::hs) th) :
   PS X (.Try body (h0::hs) [] [] pos) (AO tb th):=by
 intro pins s σ H D I h;refine wpAny_Try_except (wpAny_mono (hb _ pins s σ H D I h) (fun f s1 q=>?_) fun e s' z=>?_)
 . cases f with
   | next=>exact wpAny_execs_nil q
   | ret v=>exact q
   | brk=>exact q
   | cont=>exact q
 . obtain ⟨σ1,H1,s1,I1,ea,T,cls,od,H',rfl,os,bare,un,hok,n1,n2,f1,f2,er,q⟩:=z;have J:=I1.call' (ch:=[]) os un hok bare (by simp);have fresh:∀ b,s1.heap.get? b=none->H' b=none->Loose X pins H' b:=fun b z u=>by
     obtain ⟨a1,a2,a3⟩:=I1.apart z;refine ⟨u,?_,a1,a2,a3⟩;rcases I1.young z with y|y
     . exact y
     . rw [hx] at y;cases y
   have le:=fresh ea f1 n1;have lt:=fresh T f2 n2;have fr:=J.ok.frames;have st:=J.stack;rw [hst] at fr st;refine wX fr st hf er fun h2 T2 er2 k2 nT2=>?_;rw [<- hst] at k2;have J2:Inv X pins σ1 H' { s' with heap:=h2 }:=J.moved (tk:=s'.toks) k2 fun b hb=>by
     simp only [List.mem_cons,List.not_mem_nil,or_false] at hb;rcases hb with rfl|rfl
     . exact le.all
     . exact lt.all
   have lt2:Loose X pins H' T2:=by
     obtain ⟨a1,a2,a3⟩:=J.apart nT2;refine ⟨ut hok nT2,?_,a1,a2,a3⟩;rcases J.young nT2 with y|y
     . exact y
     . rw [hx] at y;cases y
   refine pr (fs:=frs X.stack) (s:={ s' with heap:=h2 }) er2 fun h3 er3 k3=>?_;have J3:Inv X pins σ1 H' { s' with heap:=h3 }:=J2.moved (tk:=s'.toks) k3 fun b hb=>by rw [List.mem_singleton.mp hb];exact lt2.all
   exact hh pins _ σ1 H' D ea T2 cls od J3 er3 le lt2 q
end
end L2
set_option Elab.async false
set_option linter.all false
set_option maxRecDepth 100000
namespace L2
open PySem PySem.Spec PyProof.Rows
structure RoomH (k:Nat) (A:Around):Prop where
 dp:A.depth+3*k+5<recursionLimit
 un:A.units+16*k+200<cLine
theorem Room.h {k:Nat} {A:Around} (r:Room k A):RoomH k A:=⟨r.dp,r.un⟩
theorem RoomH.mark {k:Nat} {A:Around} (r:RoomH k A) (e:Option Value):RoomH k (A.mark e):=⟨r.dp,r.un⟩
theorem RoomH.deeper {k:Nat} {A:Around} (r:RoomH (k+1) A) (env:Env):RoomH k (A.deeper env) :=
 ⟨by have:=r.dp;show A.depth+1+3*k+5<_;omega,by have:=r.un;show A.units+3+16*k+200<_;omega⟩
structure FnOkH (P:Program) (w:World) (K:PySem.W.Frag) (mg:Str->Option Value) (base:Heap) (k:Nat) (f:Addr) (fd:FuncData) (ps:List Str) (sp:Sp):Prop where
 len:∀ vs H Q E,sp vs H Q E->vs.length=ps.length
 run:∀ (A:Around) (outer:List Env) (s:Shared) (H:Hp) (args:Args) (us:List Value) (vs:List V) (Q:VK) (E:XK),RoomH k A->Env0 P w K mg base A outer s H->BindsTo s fd args (ps.zip us)->Vals vs us->sp vs H Q E ->
   codeAny (model P w) A (.call (.ref f) args) (CR CX0 outer P w H s Q E) s
section
variable {P:Program} {w:World} {K:PySem.W.Frag} {mg:Str->Option Value} {base:Heap}
abbrev cxH (P:Program) (w:World) (K:PySem.W.Frag) (mg:Str->Option Value) (base:Heap) (N:List Str) (qual:Str) (scope:Scope) (f:Addr) (cd:Value) (A:Around) (outer:List Env) (s:Shared) (H:Hp):Cx:={ g5 CX0 P w K mg base N qual scope f cd A outer s H E0 with calm:=false,xe:=fun _ _=>False }
theorem Fun.okH {x qual:Str} {st:Stmt} {f:Addr} {fd:FuncData} {N ps:List Str} {k:Nat} {sp:Sp} (F:Fun K x qual st f fd) (S:FnScope N ps (af st)) (len:∀ vs H Q E,sp vs H Q E->vs.length=ps.length)
   (hbody:∀ (cdv:Value) (A:Around) (outer:List Env) (s:Shared) (H:Hp) (vs:List V) (Q:VK) (E:XK),RoomH k (A.deeper (envOfC qual (af st) s.heap.objs.size f cdv))->sp vs H Q E ->
     ∃ t,PSs (cxH P w K mg base N qual (af st) f cdv A outer s H) (aL st) t/\t { nx:=fun _ H'=>Q .non H',rt:=Q } (start N vs) H):FnOkH P w K mg base (k+1) f fd ps sp:=by
 obtain ⟨oc,od,kV,doc,pm,an,cdv,ct,osl,rfl,lk,hcd⟩:=F.ex;refine ⟨len,fun A outer s H args us vs Q E hr e0 hb r hsp=>?_⟩;have hl:=len _ _ _ _ hsp;have KX:K.In s.heap:=e0.mod.kin.keeps fun b o e=>(e0.bs b o e).1;have lim:s.heap.NoLimit:=e0.mod.nolimit.keeps fun b o e=>(e0.bs b o e).1;have kinds:∀ y∈ps.zip us,(af st).names.lookup y.1=some .local\/((af st).names.lookup y.1=some .cell/\((cellsFrom (s.heap.objs.size+1) (af st).names []).lookup y.1).isSome=true):=fun ⟨n,v⟩ hy=>by
   rcases S.par n (List.of_mem_zip hy).1 with q|q
   . exact .inl q
   . exact .inr ⟨q,PySem.W.cellsFrom_some _ _ _ (.inl q)⟩
 refine codeAny_call_function (by have:=hr.dp;omega) (KX _ _ lk) rfl S.co S.gen rfl (PySem.W.codeRec_of KX hcd) (hb _ _ _ _ ?_);refine wpAny_newFunctionEnv_cells S.kind kinds fun env he s1 x1=>?_;subst he;refine ⟨lim.keeps x1.toInCall.keep,codeAny_func ?_⟩;obtain ⟨t,ht,hq⟩:=hbody cdv A outer s H vs Q E (hr.deeper _) hsp;have e1:Env0 P w K mg base ({ A with handled:=none }:Around) outer s H:=⟨e0.frames,e0.mod,e0.bs,e0.bsz,e0.funs,e0.frf,e0.hok,e0.bare⟩;have J:=tf (CX:=CX0) (E:=E0) (qual:=qual) (f:=f) (cd:=cdv) S (show ({ A with handled:=none }:Around).handled=none from rfl) e1 hl r x1;have I:Inv (cxH P w K mg base N qual (af st) f cdv A outer s H) [] (start N vs) H s1 :=
   ⟨⟨J.ok.mod,J.ok.kind,J.ok.glob,J.ok.blt,J.ok.above,J.ok.inj,J.ok.has,J.ok.cab,(fun z=>nomatch z),Around.frames_deeper e0.frames,J.ok.stk,J.ok.exf,J.ok.bs,J.ok.bsz,J.ok.noex,J.ok.exfs,J.ok.funs,J.ok.frf⟩,J.os,J.bare,J.base,J.loc,J.cell,J.free,J.freeC,J.pin,J.hok,J.len⟩
 refine wpAny_mono (ht [] s1 (start N vs) H _ I hq) (fun fl s' hs=>?_) fun e s' hs=>False.elim hs;have fin:∀ {σ':St} {H':Hp} {v:V} {u:Value},Inv (cxH P w K mg base N qual (af st) f cdv A outer s H) [] σ' H' s'->RelV v u->Q v H'->CE outer P w H s Q u s':=fun J rv q=>⟨_,_,J.os,J.bare,J.base,J.hok,rv,q⟩;cases fl with
 | ret u =>
   obtain ⟨v,σ',H',J,rv,q⟩:=hs;exact fin J rv q
 | next =>
   obtain ⟨σ',H',J,q⟩:=hs;exact fin (v:=V.non) (u:=Value.none) J rfl q
 | brk =>
   obtain ⟨_,_,_,q⟩:=hs;exact False.elim q
 | cont =>
   obtain ⟨_,_,_,q⟩:=hs;exact False.elim q
end
section
variable {X:Cx} {k:Nat} {f:Addr} {fd:FuncData} {ps:List Str} {sp:Sp} {x:Str} {p pos:Pos} {e:Expr} {es:List Expr} {t:TA}
theorem A3 (F:FnOkH X.prog X.w X.K X.mg X.base k f fd ps sp) (hr:RoomH k X.A) (hg:Gl X x) (hm:X.mg x=some (.ref f)) (hk:PySem.W.keepIn X.K (.ref f)=true) (hb:Binds X.K fd ps [])
   (ha:PA X (e::es) t) (hdb:(x == ("__debug__":Str))=false:=by decide) (he:starEach (e::es) X.env=(false,eval e X.env)::starEach es X.env:=by rfl) (hpl:(backTo pos (starEach es X.env)).any (·.1)=false:=by rfl) :
   PE X (.Call (.Name x p) (e::es) [] pos) (ue sp [] E0 t):=by
 intro pins s σ H Q I h;refine wpAny_Call_Name_kw (iP I hg hm ?_ hdb);refine PySem.W.callWith_K (h₀:=X.base) I.ok.mod.kin hk (mZ (ha pos pins s σ H _ I h) fun us s1 vs H1 I1 r q=>⟨I1.kIn,?_⟩) he hpl;have r2:Vals (vs++[]) (us++[]):=r.append .nil;have hl:(us++[]).length=ps.length:=by rw [<- r2.length];exact F.len _ _ _ _ q
 refine wpAny_call (codeAny_mono (F.run X.A X.stack s1 H1 ⟨us,[]⟩ (us++[]) (vs++[]) Q E0 hr I1.env0 (hb s1 us I1.kIn hl) r2 q) fun r s' hq=>?_);cases r with
 | error e=>exact False.elim hq
 | ok fl =>
   cases fl with
   | ret u=>exact I1.after hq
   | next=>exact False.elim hq
   | brk=>exact False.elim hq
   | cont=>exact False.elim hq
end
def Di (K:PySem.W.Frag) (C:Addr):V->Bool->Prop
 | .ref C',b=>XCls K C'/\PySem.W.mroIn K C (.ref C')=some b
 | .ty T,b=>PySem.W.kitMeta T=true/\PySem.W.mroIn K C (.type T)=some b
 | _,_=>False
def XDict (H:Hp):Option Addr->Prop
 | none=>True
 | some d=>∃ fs,H d=some (.xd fs)
def BE (K:PySem.W.Frag):List V->Hp->VK->Prop:=fun xs H Q=>∃ ea C od cv b,xs=[.ref ea,cv]/\H ea=some (ExO ea (.ref C) od)/\XDict H od/\XCls K C/\Di K C cv b/\Q (.bl b) H
theorem CH {K:PySem.W.Frag} {C:Addr} {cv:V} {u:Value} {b:Bool} (c:XCls K C) (r:RelV cv u) (h:Di K C cv b):PySem.W.kitOne K (.ref C) u=some b:=by
 unfold PySem.W.kitOne;cases cv with
 | ref C' =>
   cases (show u=Value.ref C' from r);obtain ⟨c',m⟩:=h;by_cases z:C=C'
   . subst z;rw [c.sf] at m;cases m;simp
   . have:(Value.ref C == Value.ref C')=false:=(by simpa using z);rw [this];simp only [Bool.false_eq_true,if_false];unfold PySem.W.kitCls;have q:((PySem.W.clsIn K C').isSome && PySem.W.typeIn K (.ref C') == some (.type "type"))=true:=by
       obtain ⟨cd,e,_⟩:=PySem.W.any_some c'.hd;rw [e,c'.ty];simp
     simp only [q,if_true];exact m
 | ty T =>
   cases (show u=Value.type T from r);obtain ⟨c',m⟩:=h;have:(Value.ref C == Value.type T)=false:=by simp
   rw [this];simp only [Bool.false_eq_true,if_false];unfold PySem.W.kitCls;simp only [c',if_true];exact m
 | non=>exact h.elim
 | bl=>exact h.elim
 | int=>exact h.elim
 | str=>exact h.elim
 | byt=>exact h.elim
 | flt=>exact h.elim
section
variable {X:Cx}
theorem BU {pins:List (Addr × Obj)} {σ:St} {H:Hp} {s:Shared} {ea C:Addr} {od:Option Addr} (I:Inv X pins σ H s) (h:H ea=some (ExO ea (.ref C) od)) (d:XDict H od):∃ ox oo,PySem.W.InstAt s.heap ea ox C oo:=by
 obtain ⟨⟨oe,vs,h1,h2,h3,h4,_⟩,_⟩:=(show ObjOk X.prog X.w H s.heap ea (ExO ea (.ref C) od) from I.hok ea _ h);have nc:PySem.W.notCls oe=true:=by unfold PySem.W.notCls;rw [h4]
 cases od with
 | none=>exact ⟨oe,none,h1,h2,nc,by rw [h3];trivial⟩
 | some dx =>
   obtain ⟨fs,hd⟩:=d;obtain ⟨mA,⟨o,es,ep,e,_⟩,_⟩:=(show ObjOk X.prog X.w H s.heap dx (.xd fs) from I.hok dx _ hd);exact ⟨oe,some o,h1,h2,nc,by rw [h3];exact e⟩
theorem cT:gN X (.builtin "isinstance") (BE X.K):=by
 intro pins s σ H xs us Q I r h;obtain ⟨ea,C,od,cv,b,rfl,he,hd,c,hk,q⟩:=h;obtain ⟨u,cu,rfl,ru,rc⟩:=yi r;cases (show u=Value.ref ea from ru);obtain ⟨ox,oo,ia⟩:=BU I he hd;exact PySem.W.kia_one (BN (x:=ea) (ox:=ox) (od:=oo) c) I.kIn ia (CH c rc hk) (fun z=>nomatch z) fun tk=>⟨.bl b,H,I.tok tk,rfl,q⟩
end
end L2
set_option Elab.async false
set_option linter.all false
set_option maxRecDepth 100000
namespace L2
open PySem PySem.Spec PyProof.Rows
section
variable {X:Cx}
end
theorem CA {K:PySem.W.Frag} {C T:Addr} {c0:Value} {dd:Option Addr} {cd:ClassData} {sl:Array (Option Value)} (h:K.lookup C=some ⟨c0,dd,.cls cd,sl⟩) (m:cd.mro=.ref C::.ref T::bmV) (C':Addr):PySem.W.mroIn K C (.ref C')=some (decide (C'=C) || decide (C'=T)):=by
 unfold PySem.W.mroIn PySem.W.clsIn;rw [h];simp only [Option.bind_some,m,List.isEmpty_cons,Bool.false_eq_true,if_false]
 congr 1
 by_cases h1:C'=C
 . subst h1;simp
 . by_cases h2:C'=T
   . subst h2;simp
   . have a:(Value.ref C' == Value.ref C)=false:=(by simpa using h1);have b:(Value.ref C' == Value.ref T)=false:=(by simpa using h2);simp [List.contains_cons,a,b,h1,h2]
structure XErr (K:PySem.W.Frag) (T C:Addr):Prop where
 x:XCls K C
 mr:∀ C',PySem.W.mroIn K C (.ref C')=some (decide (C'=C) || decide (C'=T))
 mv:PySem.W.mroIn K C (.type "ValueError")=some true
theorem r9 {K:PySem.W.Frag} {C:Addr} {c0:Value} {dd:Option Addr} {cd:ClassData} {sl:Array (Option Value)} {r:List Value} (h:K.lookup C=some ⟨c0,dd,.cls cd,sl⟩) (m:cd.mro=.ref C::r) {v:Value} (hv:(Value.ref C::r).contains v=true):PySem.W.mroIn K C v=some true:=by
 unfold PySem.W.mroIn PySem.W.clsIn;rw [h];simp only [Option.bind_some,m,List.isEmpty_cons,Bool.false_eq_true,if_false,hv]
section
variable {K:PySem.W.Frag} {T C:Addr} {c0:Value} {dd:Option Addr} {cd:ClassData} {sl:Array (Option Value)}
theorem wU {r:List Value} (h1:PySem.W.typeIn K (.ref C)=some (.type "type")) (h2:PySem.W.findIn K (.ref C) "__getattribute__"=some (some (.builtin "BaseException.__getattribute__"))) (h3:PySem.W.findIn K (.ref C) "__getattr__"=some none)
   (h4:PySem.W.findIn K (.ref C) "__class__"=some (some (.builtin "object.__class__"))) (h5:PySem.W.specialIn K (.builtin "object.__class__") "__get__"=some (some (.builtin "getset_descriptor.__get__"))) (h6:PySem.W.takesIn K (.builtin "object.__class__")=some true)
   (h7:PySem.W.hasDictIn K C=true) (h:K.lookup C=some ⟨c0,dd,.cls cd,sl⟩) (m:cd.mro=.ref C::r) (a:r.contains (.type "object")=true) (b:r.contains (.type "BaseException")=true):XCls K C :=
 ⟨h1,h2,h3,h4,h5,h6,r9 h m (by rw [List.contains_cons,a,Bool.or_true]),r9 h m (by rw [List.contains_cons,b,Bool.or_true]),h7,r9 h m (by simp)⟩
structure XTop (K:PySem.W.Frag) (T:Addr):Prop where
 x:XCls K T
theorem Cu (h1:PySem.W.typeIn K (.ref C)=some (.type "type")) (h2:PySem.W.findIn K (.ref C) "__getattribute__"=some (some (.builtin "BaseException.__getattribute__"))) (h3:PySem.W.findIn K (.ref C) "__getattr__"=some none)
   (h4:PySem.W.findIn K (.ref C) "__class__"=some (some (.builtin "object.__class__"))) (h5:PySem.W.specialIn K (.builtin "object.__class__") "__get__"=some (some (.builtin "getset_descriptor.__get__"))) (h6:PySem.W.takesIn K (.builtin "object.__class__")=some true)
   (h7:PySem.W.hasDictIn K C=true) (h:K.lookup C=some ⟨c0,dd,.cls cd,sl⟩) (m:cd.mro=.ref C::bmV):XTop K C:=⟨wU h1 h2 h3 h4 h5 h6 h7 h m (by decide +kernel) (by decide +kernel)⟩
theorem d6 (h1:PySem.W.typeIn K (.ref C)=some (.type "type")) (h2:PySem.W.findIn K (.ref C) "__getattribute__"=some (some (.builtin "BaseException.__getattribute__"))) (h3:PySem.W.findIn K (.ref C) "__getattr__"=some none)
   (h4:PySem.W.findIn K (.ref C) "__class__"=some (some (.builtin "object.__class__"))) (h5:PySem.W.specialIn K (.builtin "object.__class__") "__get__"=some (some (.builtin "getset_descriptor.__get__"))) (h6:PySem.W.takesIn K (.builtin "object.__class__")=some true)
   (h7:PySem.W.hasDictIn K C=true) (h:K.lookup C=some ⟨c0,dd,.cls cd,sl⟩) (m:cd.mro=.ref C::.ref T::bmV):XErr K T C:=by
 have a:(Value.ref T::bmV).contains (.type "object")=true:=by rw [List.contains_cons];simp [bmV]
 have b:(Value.ref T::bmV).contains (.type "BaseException")=true:=by rw [List.contains_cons];simp [bmV]
 have c:(Value.ref T::bmV).contains (.type "ValueError")=true:=by rw [List.contains_cons];simp [bmV]
 exact ⟨wU h1 h2 h3 h4 h5 h6 h7 h m a b,CA h m,r9 h m (by rw [List.contains_cons,c,Bool.or_true])⟩
end
section
variable {P:Program} {w:World} {K:PySem.W.Frag} {mg:Str->Option Value} {base:Heap}
theorem Fun.okX {x qual:Str} {st:Stmt} {f:Addr} {fd:FuncData} {N ps:List Str} {k:Nat} {sp:Sp} (F:Fun K x qual st f fd) (S:FnScope N ps (af st)) (len:∀ vs H Q E,sp vs H Q E->vs.length=ps.length)
   (hbody:∀ (cdv:Value) (A:Around) (outer:List Env) (s:Shared) (H:Hp) (vs:List V) (Q:VK) (E:XK),Room k (A.deeper (envOfC qual (af st) s.heap.objs.size f cdv))->sp vs H Q E ->
     ∃ t,PSs (g5 (CXe P w) P w K mg base N qual (af st) f cdv A outer s H E) (aL st) t/\t { nx:=fun _ H'=>Q .non H',rt:=Q } (start N vs) H):FnOk P w K mg base (CXe P w) (k+1) f fd ps sp:=by
 obtain ⟨oc,od,kV,doc,pm,an,cdv,ct,osl,rfl,lk,hcd⟩:=F.ex;exact Cg lk hcd S len fun A outer s H vs Q E hr hsp=>hbody cdv A outer s H vs Q E hr hsp
end
theorem sX {C:Addr} {E:XK} {t:TA} {D:Ends} {σ:St} {H:Hp}:zE C E t D σ H=t σ H fun vs H1=>vs.length<=sizeLine/\E (.ref C) none H1:=rfl
theorem wS {tb:(St->XK)->TS} {th:TH} {D:Ends} {σ:St} {H:Hp}:AO tb th D σ H=tb (fun σ' cls od H'=>th D σ' cls od H') D σ H:=rfl
theorem vf {K:PySem.W.Frag} {C':Addr} {i:Nat} {ts:TS} {tr:TH} {D:Ends} {σ:St} {cls:Value} {od:Option Addr} {H:Hp}:Ee K C' i ts tr D σ cls od H=∃ C b,cls=.ref C/\PySem.W.mroIn K C (.ref C')=some b /\
 if b=true then ∀ ea,H ea=none->ts (D.less i) (σ.set i (some (.ref ea))) (upd H ea (ExO ea cls od)) else tr D σ cls od H:=rfl
theorem tS:bootBuiltins "ValueError"=some (.type "ValueError"):=by decide +kernel
theorem d7 {K:PySem.W.Frag} {H:Hp} {ea C C' Tl:Addr} {od:Option Addr} {Q:VK} (he:H ea=some (ExO ea (.ref C) od)) (hd:XDict H od) (xe:XErr K Tl C) (x':XErr K Tl C') (ne:C'≠Tl) (q:Q (.bl (decide (C'=C))) H):BE K [.ref ea,.ref C'] H Q:=by
 refine ⟨ea,C,od,.ref C',decide (C'=C),rfl,he,hd,xe.x,⟨x'.x,?_⟩,q⟩;rw [xe.mr,decide_eq_false ne,Bool.or_false]
theorem CJ {K:PySem.W.Frag} {H:Hp} {ea C Tl:Addr} {od:Option Addr} {Q:VK} (he:H ea=some (ExO ea (.ref C) od)) (hd:XDict H od) (xe:XErr K Tl C) (q:Q (.bl true) H):BE K [.ref ea,.ty "ValueError"] H Q :=
 ⟨ea,C,od,.ty "ValueError",true,rfl,he,hd,xe.x,⟨by decide +kernel,xe.mv⟩,q⟩
theorem XDict.same {H H':Hp} {od:Option Addr} (e:Same H H') (h:XDict H od):XDict H' od:=by
 cases od with
 | none=>trivial
 | some d =>
   obtain ⟨fs,h⟩:=h;exact ⟨fs,e _ _ h⟩
theorem DP {H:Hp} {l b:Addr} {xs zs:List V} {Q:VK} (h1:H l=some (.lst xs)) (h2:H b=some (.lst zs)) (hz:xs.length+zs.length<=sizeLine) (q:∀ p,H p=none->Q (.ref p) (upd H p (.lst (xs++zs)))):rCat (.ref l) (.ref b) H Q:=⟨l,b,xs,zs,rfl,rfl,h1,h2,hz,q⟩
theorem Same.put {H H':Hp} {l:Addr} (e:Same H H') (n:H l=none) (o:HO):Same H (upd H' l o):=fun b u h=>by rw [ao (az h n)];exact e b u h
end L2
set_option Elab.async false
set_option linter.all false
set_option maxRecDepth 100000
namespace L2
open PySem PySem.Spec PyProof.Rows
theorem zS {M:Model} {A:Around} {E:Value->Shared->Prop} {s:Shared} {env:Env} {x:Str} {px:Pos} {v:Value} {Q:Unit->Shared->Prop} (h:wpAny M A (storeName env x v) Q E s):wpAny M A (assign (.Name x px) env v) Q E s:=by
 show wpAny M A (do standAt px;bindName env x v) Q E s;exact wpAny_bind (wpAny_standAt (wpAny_bindName h))
section
variable {X:Cx} {Nc:List Str} {own:Nat} {js:List Nat} {scope:Scope} {cl:List (Str × Addr)}
theorem yt {i:Nat} {x:Str} {px pos:Pos} {elt target iter:Expr} {ifs:List Expr} {cpos:Pos} {wi:TI} {g:TG} {tc:TT} {te:TE} (hN:X.N.Nodup) (hxi:X.N[i]?=some x) (hxl:X.env.scope.names.lookup x=some .local) (hc:X.calm=true) (T:CompTxt X Nc own js scope cl)
   (hi:PI X target iter wi) (hg:∀ C s₂ H₁ fp,PG (X.comp Nc scope cl C s₂ H₁ fp) target g) (ht:∀ C s₂ H₁ fp,PTs (X.comp Nc scope cl C s₂ H₁ fp) ifs tc)
   (he:∀ C s₂ H₁ fp,PE (X.comp Nc scope cl C s₂ H₁ fp) elt te) (hs:∀ x,foldedSetIterable iter X.env x=pure x:=by intro _;rfl)
   (hsw:swapsWith (.ListComp elt [⟨target,iter,ifs,0⟩] scope cpos) (some (.Name x px)) pos.line X.env=pure true:=by rfl) :
   PS X (.Assign [.Name x px] (.ListComp elt [⟨target,iter,ifs,0⟩] scope cpos) pos) (uv (t6 own js wi g tc te) (lB i)):=by
 intro pins s σ H D I h;rw [exec_Assign_Name_used _ _ _ _ hsw];refine wpAny_bind (wpAny_standAt (wpAny_bind ?_));rw [arm_evalThenUse_ListComp];refine wpAny_bind ?_;refine wpAny_comprehension_free (use:=some (assign (.Name x px) X.env)) rfl hs T.clos T.kind T.names (thn (hi pins s σ H _ I h) fun v s1 h1=>thn h1 fun itv s2 h2=>?_);obtain ⟨it,fp,tn,J,H1,rfl,I1,Tn,st,f1,R⟩:=h2;have hfp:∀ b∈fp,b<s2.heap.objs.size:=fun b hb=>let ⟨o,e,_⟩:=Tn.obj _ _ st b hb;Heap.lt_size e;refine wpAny_newObj_type (wpAny_newFunctionEnv T.nocell (by intro y hy;simp at hy) (fun h₁ hns₁ hsb₁=>?_) T.kind);dsimp only at hns₁ hsb₁ ⊢;generalize hH2:s2.heap.push { cls:=.type "list",dict:=none,data:=.seq ([]:List Value).toArray }=H2 at hns₁ hsb₁ ⊢;have hC:H2.objs.size=s2.heap.objs.size+1:=by rw [<- hH2,Heap.size_push]
 have hDC:s2.heap.objs.size≠H2.objs.size:=by rw [hC];exact Nat.ne_of_lt (Nat.lt_succ_self _)
 have hCle:s2.heap.objs.size<=H2.objs.size:=by rw [hC];exact Nat.le_succ _
 have below:∀ b,b<s2.heap.objs.size->b≠H2.objs.size:=fun b hb=>by rw [hC];exact Nat.ne_of_lt (Nat.lt_succ_of_lt hb)
 have old:∀ b o,s2.heap.get? b=some o->h₁.get? b=some o:=fun b o e=>hsb₁.extBut b o (below b (Heap.lt_size e)) (Heap.get?_push_of_some _ (hH2 ▸ Heap.get?_push_of_some _ e));have hacc:∃ n,h₁.get? s2.heap.objs.size=some { cls:=.type "list",data:=.seq ([]:List Value).toArray n }:=⟨_,hsb₁.extBut _ _ hDC (Heap.get?_push_of_some _ (hH2 ▸ Heap.get?_push_size _ rfl))⟩;have st₁:tn 0 h₁:=Tn.keep _ _ _ st fun b _ o e=>old b o e;obtain ⟨W,⟨m0,w0⟩,turn⟩:=R s2.heap.objs.size I1.fresh;have Ic:=qx (t:=s2.toks+([]:List (Str × Value)).length) T I1 hCle (Nat.le_refl _) hDC f1 hfp old hns₁ hacc;generalize hXc:X.comp Nc scope cl H2.objs.size s2 H1 fp=Xc at Ic;have stat:∀ {H':Hp},(∀ b∈fp,H' b=none)->∀ b∈fp,fi Xc [] H' b:=fun {H'} hn b hb=>by
   subst hXc;exact ⟨hn b hb,below b (hfp b hb),(pA T I1 hCle f1 hfp).exfs b hb,.inl hb,fun x c e=>(f1 b hb).2.2.2.2.1 x c (T.cells x c e),fun p hp=>by cases hp⟩
 have fr0:∀ b∈fp,upd H1 s2.heap.objs.size (.lst []) b=none:=fun b hb=>by
   rw [ao (Nat.ne_of_lt (hfp b hb))];exact (f1 b hb).1
 have calmc:Xc.calm=true:=by subst hXc;exact hc
 have loop:∀ s₃:Shared,s₃={ s2 with heap:=h₁,toks:=s2.toks+([]:List (Str × Value)).length } ->
     codeAny (model X.prog X.w) X.A (.compLoop (.ListComp elt [⟨target,iter,ifs,0⟩] scope cpos) 0 (.ref it) (.ref s2.heap.objs.size) (compEnvC scope cl H2.objs.size X.env))
       (compPost (model X.prog X.w) X.A X.xe (some (assign (.Name x px) X.env)) (fun _ s'=>wpAny (model X.prog X.w) X.A (pure ()) (fun _ s''=>wpAny (model X.prog X.w) X.A (pure Flow.next) (SP X pins D) X.xe s'') X.xe s') (.ref s2.heap.objs.size) H2.objs.size) s₃:=by
   rintro s₃ rfl;refine kr (fun n s'=>∃ i ys σ' H',Inv Xc [] σ' H' s'/\tn i s'.heap/\(∀ b∈fp,H' b=none)/\W i n ys σ' H') ?_ m0 ⟨0,[],_,_,Ic,st₁,fr0,w0⟩;rintro n s3 ⟨i,ys,σ3,H3,I3,st3,fr3,w3⟩;rcases turn i n ys σ3 H3 w3 with ⟨stop,q⟩|⟨go,step⟩
   . subst hXc;refine thn (Tn.done (X.comp Nc scope cl H2.objs.size s2 H1 fp) rfl rfl rfl hc i [] s3 σ3 H3 _ I3 (stat fr3) st3 stop) fun r s4 ⟨hr,I4⟩=>?_;subst hr;obtain ⟨m4,hn4,_⟩:=id I4.loc;have J:=oF I1 hCle f1 I4 (h':=s4.heap) (Heap.SameBut.refl _ _);have cl0:H2.objs.size≠X.env.locals:=Nat.ne_of_gt (Nat.lt_of_lt_of_le I1.lt hCle);have cy:X.s₀.heap.objs.size<=H2.objs.size:=Nat.le_trans I1.sz hCle;have cc:∀ y c,X.env.cells.lookup y=some c->c≠H2.objs.size:=fun y c e=>by
       obtain ⟨v',o',ho',_⟩:=I1.cell y c e;exact Nat.ne_of_lt (Nat.lt_of_lt_of_le (Heap.lt_size ho') hCle)
     have cp:∀ p∈X.pn++pins,p.1≠H2.objs.size:=fun p hp=>by
       obtain ⟨ho',_⟩:=I1.pin p hp;exact Nat.ne_of_lt (Nat.lt_of_lt_of_le (Heap.lt_size ho') hCle)
     refine zS (tD (v:=.ref s2.heap.objs.size) J hN hxi (.inl hxl) rfl (fun s5 I5 ⟨ad,sb,had⟩=>?_) (.inr hxl));have nad:H2.objs.size≠ad:=by
       rcases had with rfl|had
       . exact cl0
       . exact (cc _ _ had).symm
     obtain ⟨oo,es,ep,e1,e2⟩:=hn4;refine ⟨m4,⟨oo,es,ep,(sb.2 _ nad).trans e1,e2⟩,fun h' hs'=>wpAny_pure (wpAny_pure ⟨_,H3,?_,q⟩)⟩;exact I5.turned (it:=H2.objs.size) (t':=s5.toks) (fun b o n e=>hs'.extBut b o n e) I4.free cl0 (.inr cy) cc cp
   . subst hXc;refine thn (Tn.item (X.comp Nc scope cl H2.objs.size s2 H1 fp) rfl rfl rfl hc i [] s3 σ3 H3 _ I3 (stat fr3) st3 go) fun r s4 ⟨u,hr,h4⟩=>?_;subst hr;refine thn h4 fun _ s5 ⟨x,H5,I5,r5,y5,st5,fr5⟩=>?_;have I5':=I5.pinned (stat fr5) (Tn.obj _ _ st5);have back:∀ {σ7:St} {H7:Hp} {s7:Shared},Inv (X.comp Nc scope cl H2.objs.size s2 H1 fp) ([]++jo fp s5.heap) σ7 H7 s7->Inv (X.comp Nc scope cl H2.objs.size s2 H1 fp) [] σ7 H7 s7/\tn (i+1) s7.heap/\∀ b∈fp,H7 b=none:=fun {σ7 H7 s7} I7=>by
       refine ⟨I7.unpinned,Tn.keep _ _ _ st5 fun b hb o e=>(I7.pin (b,o) (List.mem_append_right _ (List.mem_append_right _ (dL hb e)))).1,fun b hb=>?_⟩;obtain ⟨o,e,d⟩:=Tn.obj _ _ st5 b hb;exact (I7.pin (b,o) (List.mem_append_right _ (List.mem_append_right _ (dL hb e)))).2.1
     refine thn (hg _ _ _ _ _ s5 σ3 H5 x u _ I5' r5 (step x H5 y5)) fun _ s6 ⟨σ6,H6,I6,q6⟩=>?_;refine sH (ht _ _ _ _ _ s6 σ6 H6 _ I6 q6) fun ok s7 H7 I7 q7=>?_;cases ok with
     | false =>
       rw [if_neg Bool.false_ne_true] at q7 ⊢;obtain ⟨m',hm,w7⟩:=q7;obtain ⟨J1,J2,J3⟩:=back I7;exact ⟨m',hm,i+1,ys,σ6,H7,J1,J2,J3,w7⟩
     | true =>
       rw [if_pos rfl] at q7 ⊢;refine bd (he _ _ _ _ _ s7 σ6 H7 _ I7 q7) fun y s8 yv H8 I8 r8 ⟨hp8,hl8,m',hm,w8⟩=>?_;refine thn (fm _ s8 σ6 H8 (.ref s2.heap.objs.size) [yv] _ [y] (fun v' H'=>W (i+1) m' (ys++[yv]) σ6 H') I8 rfl (.cons r8 .nil) ⟨_,ys,yv,rfl,rfl,hp8,hl8,w8⟩) fun v9 s9 ⟨_,H9,I9,_,w9⟩=>?_;obtain ⟨J1,J2,J3⟩:=back I9;exact ⟨m',hm,i+1,ys++[yv],σ6,H9,J1,J2,J3,w9⟩
 exact codeAny_compStart_list (loop _ rfl) (Tn.self _ 0 _ _ _ st₁ (loop _ rfl))
end
end L2
set_option Elab.async false
set_option linter.all false
set_option maxRecDepth 100000
namespace L2
open PySem PySem.Spec PyProof.Rows
end L2
set_option Elab.async false
set_option linter.all false
set_option maxRecDepth 100000
namespace Pb
open L2 PySem
variable {m:Int} {rs:List Road} {r:Int} {par:Int->Int} {dep:Int->Nat}
end Pb
set_option Elab.async false
set_option linter.all false
set_option maxRecDepth 100000
namespace L2
open PySem PySem.Spec PyProof.Rows
def Itv (K:PySem.W.Frag) (a:Addr) (n:Nat):It :=
 ⟨fun i H=>i<n/\∃ xs x,SqL K H a xs/\xs[n - 1 - i]?=some x,fun i H x H'=>H'=H/\∀ xs,SqL K H a xs->xs[n - 1 - i]?=some x,fun i H=>n<=i⟩
def Dk (K:PySem.W.Frag) (tl:TE):TI:=fun σ H R=>tl σ H fun x H1=>∃ a xs,x=.ref a/\SqL K H1 a xs/\R (Itv K a xs.length) H1
section
variable {X:Cx} {tg e:Expr} {te:TE} {p2 pos:Pos}
end
end L2
set_option Elab.async false
set_option linter.all false
set_option maxRecDepth 100000
namespace L2
open PySem PySem.Spec PyProof.Rows
def zx (te:TE):TE:=fun σ H Q=>te σ H fun x H1=>∃ i,x=.int i/\0<=i/\i<=100000/\∀ l,H1 l=none->Q (.ref l) (upd H1 l (.lst ((Pb.below i.toNat).map V.int)))
section
variable {X:Cx} {e:Expr} {te:TE} {p1 p2 pos pos2:Pos}
end
end L2
set_option Elab.async false
set_option linter.all false
set_option maxRecDepth 100000
namespace L2
open PySem PySem.Spec PyProof.Rows PySem.W
section
variable {X:Cx}
end
end L2
set_option Elab.async false
set_option linter.all false
set_option maxRecDepth 100000
namespace L2
open PySem PySem.Spec PyProof.Rows
section
variable {X:Cx}
end
end L2
set_option Elab.async false
set_option linter.all false
set_option maxRecDepth 100000
namespace Pb
open L2
section
variable {m:Int} {rs:List Road} {r:Int} {par:Int->Int} {dep:Int->Nat}
variable {held:Int->Int} {con:Int->Int->Int}
end
end Pb
set_option Elab.async false
set_option linter.all false
set_option maxRecDepth 100000
namespace Pb
open L2
section
variable {m:Int} {rs:List Road} {r:Int} {par:Int->Int} {dep:Int->Nat} {held:Int->Int}
end
section
open PySem
end
end Pb
set_option Elab.async false
set_option linter.all false
set_option maxRecDepth 100000
namespace L2
open PySem PySem.Spec PyProof.Rows
end L2
set_option Elab.async false
set_option linter.all false
set_option maxRecDepth 100000
namespace L2
open PySem PySem.Spec PyProof.Rows
def Ez (lo st:Int) (n:Nat):It:=⟨fun i _=>i<n,fun i H x H'=>H'=H/\x=.int (lo+i*st),fun i _=>n<=i⟩
def Ck (ta:TA):TI:=fun σ H R=>ta σ H fun vs H1=>∃ i j c:Int,vs=[.int i,.int j,.int c]/\(0<=i/\i<=1000000/\0<=j/\j<=1000000/\0<c/\c<=1000000)/\R (Ez i c (Builtin.Range.rangeSize i j c).toNat) H1
section
variable {X:Cx} {tg:Expr}
end
end L2
set_option Elab.async false
set_option linter.all false
set_option maxRecDepth 100000
namespace L2
open PySem PySem.Spec PyProof.Rows
end L2
namespace Pb
open L2 PySem
theorem sG {α β:Type} {R:α->β->Prop}:∀ (n:Nat) {l₁:List α} {l₂:List β},Paired R l₁ l₂->Paired R (l₁.take n) (l₂.take n)
 | 0,_,_,_=>by rw [List.take_zero,List.take_zero];exact .nil
 | _+1,_,_,.nil=>.nil
 | n+1,_,_,.cons x xs=>.cons x (sG n xs)
theorem xa {α β:Type} {R:α->β->Prop}:∀ (n:Nat) {l₁:List α} {l₂:List β},Paired R l₁ l₂->Paired R (l₁.drop n) (l₂.drop n)
 | 0,_,_,h=>h
 | _+1,_,_,.nil=>.nil
 | n+1,_,_,.cons x xs=>xa n xs
theorem zc {α β:Type} {R:α->β->Prop} {k₁:List α} {k₂:List β} (h:Paired R k₁ k₂):∀ {l₁:List α} {l₂:List β},Paired R l₁ l₂->Paired R (l₁++k₁) (l₂++k₂)
 | _,_,.nil=>h
 | _,_,.cons x xs=>.cons x (zc h xs)
section
variable {m:Int} {rs:List Road} {r:Int} {par:Int->Int} {dep:Int->Nat}
end
def dRd (r:Road):PyData:=.tuple [.int r.a,.int r.b,.int r.t,.int r.u]
theorem qz {K:PySem.W.Frag} {H:Hp}:∀ {ps:List Addr} {rs:List Road},Paired (fun p r=>H p=some (HO.tup [V.int r.a,V.int r.b,V.int r.t,V.int r.u])) ps rs->DeepAll K H (ps.map V.ref) (rs.map dRd)
 | _,_,.nil=>.nil
 | _,_,.cons x xs=>.cons (.tup (SqT.of x) (.cons (.int _) (.cons (.int _) (.cons (.int _) (.cons (.int _) .nil))))) (qz xs)
theorem xf:∀ rs:List Road,PyData.eqvAll (rs.map dRd) (rs.map dRd)=true
 | []=>by simp [PyData.eqvAll]
 | r::rs=>by
   rw [List.map_cons];simp only [PyData.eqvAll];rw [xf rs];simp [dRd,PyData.eqv,PyData.eqvAll]
theorem sO:∀ rs:List Road,PyData.depthAll (rs.map dRd)<=1
 | []=>by simp [PyData.depthAll]
 | r::rs=>by
   rw [List.map_cons];simp only [PyData.depthAll];have:=sO rs;have h:(dRd r).depth<=1:=by simp [dRd,PyData.depth,PyData.depthAll]
   omega
end Pb
set_option Elab.async false
set_option linter.all false
set_option maxRecDepth 100000
namespace L2
open PySem PySem.Spec PyProof.Rows
theorem vk {P:Program} {w:World} {A:Around} {l:Addr} (c:Bool) {it:Addr} (hh:A.handled=none) (ne:l≠it) (its:Array Value):Draws P w A it [it,l] its.size (fun i v=>its[i]?=some v) (fun i h=>zAt l c it i h/\xM l c h its) where
 live:=fun i h st=>let ⟨o,e,_⟩:=(kf l c P w).obj _ _ _ st.1;⟨o,e⟩
 frame:=fun i h h' st k=>⟨(kf l c P w).atK _ _ _ _ st.1 fun o e=>k it (by simp) o e,(kf l c P w).srcK _ _ _ st.2 fun o e=>k l (by simp) o e⟩
 item:=fun i s Q E hi st hq=>(kf l c P w).item A s it i its its[i] Q E st.1 st.2 (by simp [hi]) fun h' at' sb=>hq its[i] h' s.toks (by simp [hi]) ⟨at',(kf l c P w).srcK _ _ _ st.2 fun o e=>sb.extBut _ _ ne e⟩ sb
 done:=fun s Q E st hq=>(kf l c P w).fin A s it its.size its Q E hh st.1 st.2 (by simp) fun h' e eb he=>hq h' e eb he
section
variable {P:Program} {w:World} {A:Around} {E:Value->Shared->Prop} {s:Shared} {l:Addr} {ob:Obj} {src:Heap->Array Value->Prop} {at':Addr->Nat->Heap->Prop}
abbrev uf (n:Nat):Obj:={ cls:=.type "enumerate",data:=.fields #[.none,.bool false,.ref n,rawInt 0,.none,.none] }
theorem sL (S:∀ P w,SubF P w l ob src at') (xs:Array Value) :
   Meets (Builtin.«enumerate.__new__» ⟨[.type "enumerate",.ref l],[]⟩) (fun _ R s=>src s.heap xs/\R (.ok (.ret (.ref (s.heap.push ob).objs.size))) { s with heap:=(s.heap.push ob).push (uf s.heap.objs.size) }) :=
 .of_wp fun prog w A R s hyp=>by
   obtain ⟨hp,g,d,tk,os⟩:=s;obtain ⟨q1,r⟩:=hyp;have zsub:=sub_enumerate;have B1:src (Shared.heap ⟨hp,g,d,tk,os⟩) xs:=q1
   wp_walk using ((S prog w).start _ _ _ _ _ B1)
   refine wpAny_stack_any fun st=>?_;dsimp only;refine wpAny_pure ?_;have go:∀ b:Bool,b=true\/b=false:=fun b=>by cases b <;> simp
   split
   . rename_i c _ _ _ _ _
     rcases go (c == Value.type "enumerate") with z|z
     . rw [z]
       wp_walk using ((S prog w).start _ _ _ _ _ B1)
       exact ⟨_,rfl,r⟩
     . rw [z]
       wp_walk using ((S prog w).start _ _ _ _ _ B1)
       exact ⟨_,rfl,r⟩
   . wp_walk using ((S prog w).start _ _ _ _ _ B1)
     exact ⟨_,rfl,r⟩
theorem yE (S:∀ P w,SubF P w l ob src at') {xs:Array Value} {Q:Value->Shared->Prop} (q1:src s.heap xs) (f1:ob.isFreed=false)
   (h:∀ h',IsEnum h' (s.heap.objs.size+1) s.heap.objs.size 0 .none->at' s.heap.objs.size 0 h'->(∀ c o,s.heap.get? c=some o->h'.get? c=some o)->Q (.ref (s.heap.objs.size+1)) { s with heap:=h' }) :
   wpAny (model P w) A (call (.type "enumerate") [.ref l]) Q E s:=by
 refine callType_new F.called_enumerate (by decide) (F.typeCall_enumerate_1 _) (F.newCall_enumerate_1 _) (fun obj=>F.args_object_init_2 obj _) F.entry_enumerate_new (sL S xs) ⟨q1,?_⟩;have n0:(s.heap.push ob).objs.size=s.heap.objs.size+1:=Heap.size_push ..;have c2:((s.heap.push ob).push (uf s.heap.objs.size)).get? (s.heap.push ob).objs.size=some (uf s.heap.objs.size):=Heap.get?_push_size _ rfl;have c1:((s.heap.push ob).push (uf s.heap.objs.size)).get? s.heap.objs.size=some ob:=Heap.get?_push_of_some _ (Heap.get?_push_size _ f1);show _/\_;rw [n0] at c2;rw [n0];exact ⟨⟨_,c2,rfl⟩,h _ c2 ((S P w).first _ _ c1) fun c o e=>Heap.get?_push_of_some _ (Heap.get?_push_of_some _ e)⟩
end
def Ite (K:PySem.W.Frag) (c:Bool) (a:Addr):It :=
 ⟨fun i H=>∃ xs x,SqX K c H a xs/\xs[i]?=some x,
  fun i H v H'=>∃ p x,H p=none/\v=.ref p/\H'=upd H p (.tup [.int i,x])/\∀ xs,SqX K c H a xs->xs[i]?=some x,
  fun i H=>∃ xs,SqX K c H a xs/\xs.length=i⟩
theorem zj {P:Program} {w:World} {K:PySem.W.Frag} {elts:List Expr} {x1} {tpos:Pos} (c:Bool) (a e it:Addr) (ne:e≠it) (ae:a≠e) (ai:a≠it) :
   Turn P w K (.Tuple elts x1 tpos) (Ite K c a) [e,it] e (fun i h=>(∃ old,IsEnum h e it (i:Nat) old)/\zAt a c it i h) where
 mem:=by simp
 obj:=fun i h t b hb=>by
   obtain ⟨⟨old,t1⟩,t2⟩:=t;simp only [List.mem_cons,List.mem_nil_iff,or_false] at hb;rcases hb with rfl|rfl
   . exact ⟨_,t1,fun v z=>by cases z⟩
   . exact (kf a c P w).obj _ _ _ t2
 keep:=fun i h h' t k=>by
   obtain ⟨⟨old,t1⟩,t2⟩:=t;exact ⟨⟨old,k e (by simp) _ t1⟩,(kf a c P w).atK _ _ _ _ t2 fun o e=>k it (by simp) o e⟩
 item:=fun X e1 e2 e3 hc i pins s σ H E I f t g=>by
   subst e1 e2 e3;obtain ⟨⟨old,t1⟩,t2⟩:=t;obtain ⟨xs,x,s1,hx⟩:=g;obtain ⟨us,r1,q1⟩:=I.sqX s1;obtain ⟨xu,hxu,rx⟩:=r1.get hx;have hh:X.A.in1.handled=none:=I.ok.hd hc;have fz:∀ q∈[e,it],fi X pins H q:=f;have W:=WalksT.enumerateD (A:=X.A) (vk (P:=X.prog) (w:=X.w) (A:=X.A.in1) (l:=a) c (it:=it) hh ai us.toArray) e ne (by simp;exact ⟨ne,ae.symm⟩) (by simp);have hil:i<us.toArray.size:=by
     have:=(List.getElem?_eq_some_iff.mp hxu).1
     simpa using this
   refine W.item i s _ _ hil ⟨⟨old,t1⟩,t2,q1⟩ fun T vals h' tk pt le tup mid keep=>?_;refine ⟨_,rfl,W.go elts x1 tpos i T { s with heap:=h',toks:=tk } _ _ mid fun h2 st2 keep2=>?_⟩;obtain ⟨tt,xv,px,ev⟩:=pt;have exv:xv=xu:=by
     have h1:us[i]?=some xv:=(by simpa using px);rw [hxu] at h1;cases h1
     rfl
   subst exv;have Tw:T ∉ [e,it]:=W.apart i T h' mid;have kp:∀ q o,q ∉ [e,it]->s.heap.get? q=some o->h2.get? q=some o:=fun q o hq eo=>keep2 q o hq (keep q o hq eo);obtain ⟨ot,ht,hct,nt,hdt⟩:=tup;have new:h2.get? T=some ot:=keep2 T ot Tw ht;have Hn:∀ q u,H q=some u->q ∉ [e,it]:=fun q u e hq=>by rw [(fz q hq).1] at e;cases e
   have nH:H T=none:=I.hok.fresh le;have Tb:∀ q o,s.heap.get? q=some o->q≠T:=fun q o eo=>Nat.ne_of_lt (Nat.lt_of_lt_of_le (Heap.lt_size eo) le);have I2:Inv X pins σ H { s with heap:=h2,toks:=tk }:=by
     refine I.step (g':=s.gens) (d':=s.drawn) (t':=tk) (ch:=[e,it]) (fun q hq=>⟨(fz q hq).2.2.2.1,(fz q hq).2.1,(fz q hq).2.2.2.2.1,(fz q hq).2.2.2.2.2⟩) (fun q o _ _ hq e _=>kp q o hq e) (fun q o _ _ hq e _=>⟨o.slots,kp q o hq e⟩) (fun _ _ _ _ n=>n)
       (fun q o hq e=>⟨o,kp q o hq e⟩) (fun _ _ e=>e) (fun _ _ _ e=>e) (fun q ps e=>⟨#[],by rw [e];simp⟩) (fun m hm=>?_) (fun q u e=>?_) I.bare
     . obtain ⟨o,es,ep,ho,r⟩:=hm;exact ⟨o,es,ep,kp _ o (fun hq=>(fz _ hq).2.1 rfl) ho,r⟩
     . refine (I.hok q u e).stay (fun q' v hq' e'=>kp q' v ?_ e') (fun _ e'=>e') fun _ _ e'=>e';rcases hq' with rfl|hq'
       . exact Hn _ u e
       . exact Hn _ _ hq'
   have I3:Inv X pins σ (upd H T (.tup [.int i,x])) { s with heap:=h2,toks:=tk }:=by
     refine ⟨I2.ok,I2.os,I2.bare,?_,I2.loc,I2.cell,?_,fun n c e=>?_,fun p hp=>?_,fun q u e=>?_,I2.len⟩
     . refine ⟨I2.base.keep,I2.base.slot,fun q o e n hx=>?_,I2.base.there,fun q xs e=>?_,fun q o u e=>?_,fun q ps e=>?_⟩
       . have lt:q<X.s₀.heap.objs.size:=Heap.lt_size e;rw [ao (Nat.ne_of_lt (Nat.lt_of_lt_of_le lt (Nat.le_trans I.sz le)))];exact I2.base.free q o e n hx
       . have e':=I2.base.tups q xs e;rw [ao (fun z=>by rw [z,nH] at e';cases e')];exact e'
       . have e':=I2.base.frzs q o u e;rw [ao (fun z=>by rw [z,nH] at e';cases e')];exact e'
       . obtain ⟨more,e'⟩:=I2.base.tbls q ps e;exact ⟨more,by rw [ao (fun z=>by rw [z,nH] at e';cases e')];exact e'⟩
     . rw [ao (Nat.ne_of_lt (Nat.lt_of_lt_of_le I.lt le))];exact I2.free
     . obtain ⟨vv,o,ho,_⟩:=I.cell n c e;rw [ao (Tb _ _ ho)];exact I2.freeC n c e
     . obtain ⟨k1,k2,k3⟩:=I.pin p hp;rw [ao (Tb _ _ k1)];exact I2.pin p hp
     . by_cases hq:q=T
       . subst hq;rw [ag] at e;cases e;refine ⟨by show 2<=sizeLine;decide,[.int (i:Nat) tt,xv],.cons ⟨tt,rfl⟩ (.cons rx .nil),ot,new,hct,nt,?_⟩;rw [hdt,ev]
       . rw [ao hq] at e;refine (I2.hok q u e).stay (fun _ _ _ e'=>e') (fun q' e'=>?_) fun q' xs e'=>?_
         . rw [ao (fun z=>by rw [z,nH] at e';cases e')];exact e'
         . rw [ao (fun z=>by rw [z,nH] at e';cases e')];exact e'
   refine ⟨.ref T,_,I3,rfl,⟨T,x,nH,rfl,rfl,fun xs' q=>?_⟩,⟨st2.1,st2.2.1⟩,fun q hq=>?_⟩
   . rw [<- I.sqX_inj s1 q];exact hx
   . have hlt:q≠T:=by
       simp only [List.mem_cons,List.mem_nil_iff,or_false] at hq;rcases hq with rfl|rfl
       . exact Tb _ _ t1
       . exact let ⟨o,e,_⟩:=(kf a c X.prog X.w).obj _ _ _ t2;Tb _ _ e
     rw [ao hlt];exact (fz q hq).1
 done:=fun X e1 e2 e3 hc i pins s σ H E I f t g=>by
   subst e1 e2 e3;obtain ⟨⟨old,t1⟩,t2⟩:=t;obtain ⟨xs,s1,hend⟩:=g;obtain ⟨us,r1,q1⟩:=I.sqX s1;have hh:X.A.in1.handled=none:=I.ok.hd hc;have fz:∀ q∈[e,it],fi X pins H q:=f;have W:=WalksT.enumerateD (A:=X.A) (vk (P:=X.prog) (w:=X.w) (A:=X.A.in1) (l:=a) c (it:=it) hh ai us.toArray) e ne (by simp;exact ⟨ne,ae.symm⟩) (by simp);have ei:i=us.toArray.size:=by
     have:=r1.length;simp;omega
   subst ei;refine W.done s _ _ ⟨⟨old,t1⟩,t2,q1⟩ fun h' tk keep=>⟨rfl,?_⟩;have kp:∀ q o,q ∉ [e,it]->s.heap.get? q=some o->h'.get? q=some o:=fun q o hq e=>keep q o hq e;have Hn:∀ q u,H q=some u->q ∉ [e,it]:=fun q u e hq=>by rw [(fz q hq).1] at e;cases e
   refine I.step (g':=s.gens) (d':=s.drawn) (t':=tk) (ch:=[e,it]) (fun q hq=>⟨(fz q hq).2.2.2.1,(fz q hq).2.1,(fz q hq).2.2.2.2.1,(fz q hq).2.2.2.2.2⟩) (fun q o _ _ hq e _=>kp q o hq e) (fun q o _ _ hq e _=>⟨o.slots,kp q o hq e⟩) (fun _ _ _ _ n=>n)
     (fun q o hq e=>⟨o,kp q o hq e⟩) (fun _ _ e=>e) (fun _ _ _ e=>e) (fun q ps e=>⟨#[],by rw [e];simp⟩) (fun m hm=>?_) (fun q u e=>?_) I.bare
   . obtain ⟨o,es,ep,ho,r⟩:=hm;exact ⟨o,es,ep,kp _ o (fun hq=>(fz _ hq).2.1 rfl) ho,r⟩
   . refine (I.hok q u e).stay (fun q' v hq' e'=>kp q' v ?_ e') (fun _ e'=>e') fun _ _ e'=>e';rcases hq' with rfl|hq'
     . exact Hn _ u e
     . exact Hn _ _ hq'
 self:=fun A i s Q E t q=>by
   obtain ⟨⟨old,t1⟩,t2⟩:=t;exact wpAny_pyIter_enum t1 q
def xU (K:PySem.W.Frag) (c:Bool) (tl:TE):TI:=fun σ H R=>tl σ H fun x H1=>∃ a,x=.ref a/\(∃ xs,SqX K c H1 a xs)/\R (Ite K c a) H1
section
variable {X:Cx} {e:Expr} {te:TE} {p2 pos:Pos}
theorem Cw {elts:List Expr} {x1} {tpos:Pos} (c:Bool) (hg:Gl X "enumerate") (hm:X.mg "enumerate"=none) (he:PE X e te) (h2:starEach [e] X.env=[(false,eval e X.env)]:=by rfl):PI X (.Tuple elts x1 tpos) (.Call (.Name "enumerate" p2) [e] [] pos) (xU X.K c te):=by
 intro pins s σ H R I h;refine Call_ (kO I hg hm boot_enumerate (PyProof.Rows.callWith_type1 ?_ h2 rfl));rw [h2];show wpAny _ _ (spliced ((false,eval e X.env)::backTo pos [])) _ _ s;refine Calls.spliced_cons (bd (he pins s σ H _ I h) fun u s1 x H1 I1 r1 q1=>Calls.spliced_nil ?_);obtain ⟨a,ex,⟨xs,sa⟩,q⟩:=q1;subst ex;cases r1;obtain ⟨us,r1,q1⟩:=I1.sqX sa;obtain ⟨oa,hoa⟩:=ym a c _ _ q1;have la:=Heap.lt_size hoa;refine yE (kf a c) q1 (yI a c) fun h' w1 w2 w3=>?_;refine wpAny_pyIter_enum w1 ?_;refine ⟨_,[s1.heap.objs.size+1,s1.heap.objs.size],_,_,H1,rfl,I1.kept (t':=s1.toks) w3,zj c a _ _ (Nat.succ_ne_self _) (Nat.ne_of_lt (Nat.lt_succ_of_lt la)) (Nat.ne_of_lt la),⟨⟨_,w1⟩,w2⟩,fun b hb=>?_,q⟩;have hle:s1.heap.objs.size<=b:=by
   simp only [List.mem_cons,List.mem_nil_iff,or_false] at hb;rcases hb with rfl|rfl
   . exact Nat.le_succ _
   . exact Nat.le_refl _
 exact I1.fpOk hle (I1.hok.fresh hle)
end
theorem zK {K:PySem.W.Frag} {c:Bool} {a:Addr} {xs:List V} {g:TG} {tb:TS} {D:Ends} {σ:St} {H:Hp} (Pv:Nat->St->Hp->Prop) (h0:Pv 0 σ H) (hl:∀ i σ H,Pv i σ H->SqX K c H a xs)
   (hs:∀ (i:Nat) (x:V) (σ:St) (H:Hp) (p:Addr) (N:St->Hp->Prop),(∀ σ' H',Pv (i+1) σ' H'->N σ' H')->xs[i]?=some x->Pv i σ H->H p=none->g (.ref p) σ (upd H p (.tup [.int i,x])) fun σ2 H2=>tb { D with nx:=N,ct:=N,bk:=D.nx } σ2 H2)
   (hd:∀ σ H,Pv xs.length σ H->D.nx σ H):ly (Ite K c a) D g tb σ H:=by
 refine ⟨fun i m σ H=>m=xs.length - i/\i<=xs.length/\Pv i σ H,⟨_,rfl,Nat.zero_le _,h0⟩,?_⟩;rintro i m σ H ⟨rfl,hi,p⟩;have q1:=hl i σ H p;by_cases hlt:i<xs.length
 . refine .inr ⟨⟨xs,xs[i],q1,List.getElem?_eq_getElem hlt⟩,fun σ' H'=>∃ m',m'<xs.length - i/\(m'=xs.length - (i+1)/\i+1<=xs.length/\Pv (i+1) σ' H'),fun σ' H' z=>z,fun x H' y=>?_⟩;obtain ⟨p',x',hp,rfl,rfl,e1⟩:=y;exact hs i x' σ H p' _ (fun σ' H' p'=>⟨xs.length - (i+1),by omega,rfl,hlt,p'⟩) (e1 xs q1) p hp
 . have e:i=xs.length:=by omega
   subst e;exact .inl ⟨⟨xs,q1,rfl⟩,hd σ H p⟩
end L2
set_option Elab.async false
set_option linter.all false
set_option maxRecDepth 100000
namespace Pb
open L2 PySem
theorem wV {α β:Type} {R:α->β->Prop} {a:α} {b:β} (h:R a b):∀ {l₁:List α} {l₂:List β},Paired R l₁ l₂->Paired R (l₁++[a]) (l₂++[b])
 | _,_,.nil=>.cons h .nil
 | _,_,.cons x xs=>.cons x (wV h xs)
end Pb
namespace L2
open PySem PySem.Spec PyProof.Rows
def B8 (i j k:Nat) (ta:TA):TS:=fun D σ H=>ta σ H fun vs H1=>∃ v w z,vs=[v,w,z]/\D.nx (((σ.set i (some v)).set j (some w)).set k (some z)) H1
end L2
set_option Elab.async false
set_option linter.all false
set_option maxRecDepth 100000
namespace Pb
open L2
section
variable {m:Int} {rs:List Road} {r:Int} {par:Int->Int} {dep:Int->Nat} {held held':Int->Int} {con:Int->Int->Int}
end
end Pb
set_option Elab.async false
set_option linter.all false
set_option maxRecDepth 100000
namespace L2
open PySem PySem.Spec PyProof.Rows
theorem yH (zs:List V) {k:Int} (k0:0<=k):oy zs none (some k)=zs.take k.toNat:=by
 unfold oy;have e1:HT.sIx zs.length 0 none=0:=rfl;have e2:HT.sIx zs.length zs.length (some k)=min k.toNat zs.length:=by
   show (if k<0 then (k+(zs.length:Int)).toNat else min k.toNat zs.length)=_;rw [if_neg (by omega)]
 rw [e1,e2,List.drop_zero,Nat.sub_zero,List.take_eq_take_iff];omega
end L2
namespace Pb
open L2 PySem
end Pb
set_option Elab.async false
set_option linter.all false
set_option maxRecDepth 100000
namespace Pb
open L2 PySem
section
variable {m:Int} {rs:List Road}
end
end Pb
set_option Elab.async false
set_option linter.all false
set_option maxRecDepth 100000
namespace L2
open PySem PySem.Spec PyProof.Rows
section
variable {X:Cx} {i o:Expr} {ty td:TE}
def Ci (ty td:TE):TE:=fun σ H Q=>ty σ H fun y H1=>td σ H1 fun x H2=>∃ a,x=.ref a/\((∃ o,DGet H2 a y o/\Q (.bl o.isSome) H2)\/(y=.non/\(∃ kvs,H2 a=some (.dK kvs))/\Q (.bl false) H2))
end
end L2
set_option Elab.async false
set_option linter.all false
set_option maxRecDepth 100000
namespace Pb
open L2 PySem
section
variable {m:Int} {rs:List Road} {r b:Int} {par:Int->Int} {dep:Int->Nat}
end
end Pb
namespace L2
theorem bZ {A B:TS} {D:Ends} {σ:St} {H:Hp} (h:∀ N:St->Hp->Prop,(∀ σ' H',B D σ' H'->N σ' H')->A { D with nx:=N } σ H):xt A B D σ H:=h (B D) fun _ _ z=>z
end L2
set_option Elab.async false
set_option linter.all false
set_option maxRecDepth 100000
namespace L2
open PySem
theorem xQ {lo:Int} {n:Nat} {g:TG} {tb:TS} {D:Ends} {σ:St} {H:Hp} (Pv:Nat->St->Hp->Prop) (h0:Pv 0 σ H)
   (hs:∀ (i:Nat) (σ:St) (H:Hp) (N B:St->Hp->Prop),(∀ σ H,(g (.int (lo+i)) σ H fun σ2 H2=>tb { D with nx:=N,ct:=N,bk:=D.nx } σ2 H2)->B σ H)->(∀ σ' H',Pv (i+1) σ' H'->N σ' H')->i<n->Pv i σ H->B σ H)
   (hd:∀ (B:St->Hp->Prop) σ H,(∀ σ H,D.nx σ H->B σ H)->Pv n σ H->B σ H):ly (Itr lo n) D g tb σ H :=
 mL Pv h0 (fun i σ H N hN hi p=>hs i σ H N (fun σ H=>g (.int (lo+i)) σ H fun σ2 H2=>tb { D with nx:=N,ct:=N,bk:=D.nx } σ2 H2) (fun _ _ z=>z) hN hi p) fun σ H p=>hd (fun σ H=>D.nx σ H) σ H (fun _ _ z=>z) p
end L2
set_option Elab.async false
set_option linter.all false
set_option maxRecDepth 100000
namespace Pb
open L2 PySem
section
variable {m:Int} {rs:List Road} {r:Int} {par:Int->Int} {dep:Int->Nat}
variable {para parb parc:Int->Int} {depa depb depc:Int->Nat} {a b c:Int}
end
section
variable {m:Int} {rs:List Road} {r b:Int} {par:Int->Int} {dep:Int->Nat}
end
end Pb
set_option Elab.async false
set_option linter.all false
set_option maxRecDepth 100000
namespace Pb
open L2 PySem
section
variable {m:Int} {rs:List Road} {r b:Int} {par:Int->Int} {dep:Int->Nat}
end
end Pb
set_option Elab.async false
set_option linter.all false
namespace L2
open PySem
def Ej (_ j:Int):Prop:=0<j/\j.natAbs.log2<9000
theorem BT {X:Cx}:OpR X (binaryOp .FloorDiv) (rI Ej fun i j=>.int (i / j)):=opI fun i j _ _ _ _ _ hc q=>by
 have h1:(0:Int)<j:=hc.1;exact PyProof.Rows.floordiv_int (by omega) (by rw [Int.fdiv_eq_ediv_of_nonneg i (by omega)];exact q) (.inl (PyProof.noPylong_of_log2 hc.2))
end L2
namespace Pb
open PySem L2
end Pb
set_option Elab.async false
set_option linter.all false
set_option maxRecDepth 100000
set_option exponentiation.threshold 5000
namespace Pb
open L2 PySem
section
variable {m:Int} {rs:List Road} {r:Int} {par:Int->Int} {dep:Int->Nat}
variable {op:Int->Int->Int} {held:Int->Int} {con:Int->Int->Int}
end
end Pb
set_option Elab.async false
set_option linter.all false
set_option maxRecDepth 100000
namespace L2
open PySem PySem.Spec PyProof.Rows
section
variable {X:Cx}
end
end L2
namespace Pb
end Pb
set_option Elab.async false
set_option linter.all false
set_option maxRecDepth 100000
namespace L2
open PySem PySem.Spec PyProof.Rows
section
variable {X:Cx}
end
end L2
set_option Elab.async false
set_option linter.all false
set_option maxRecDepth 100000
namespace L2
open PySem PySem.Spec PyProof.Rows
section
variable {P:Program} {w:World} {A:Around} {R:Result->Shared->Prop} {I S:Addr} {fp wr:List Addr} {n:Nat} {Pv:Nat->Value->Prop} {St:Nat->Heap->Prop} {bt:Nat->Nat->Bool} {kw:List (Str × Value)}
end
section
variable {X:Cx} {x:Str} {p pos kpos:Pos} {e de:Expr} {t tk:TA}
def Cj (K:PySem.W.Frag) (t tk:TA):TE:=fun σ H Q=>t σ H fun vs H1=>tk σ H1 fun zs H2=>∃ (q:Addr) (ns:List Int) (d:V),vs=[.ref q]/\zs=[d]/\SqL K H2 q (ns.map V.int)/\ns≠[]/\∀ y,y∈ns->(∀ x∈ns,y<=x)->Q (.int y) H2
def Cd (t:TE):TE:=fun σ H Q=>t σ H fun x H1=>∃ b,x=.bl b/\Q (.bl (b != true)) H1
end
end L2
set_option Elab.async false
set_option linter.all false
set_option maxRecDepth 100000
namespace Pb
open L2 PySem
section
variable {m:Int} {rs:List Road} {r:Int} {par:Int->Int} {dep:Int->Nat}
variable {ch:Int->Option Int} {w:Int} {cn:Int->Int}
end
end Pb
set_option Elab.async false
set_option linter.all false
set_option maxRecDepth 100000
namespace L2
open PySem PySem.Spec PyProof.Rows PySem.W
section
variable {n:Nat}
variable (hn:0<n)
include hn
end
section
variable {prog:Program} {w:World} {A:Around} {E:Value->Shared->Prop} {s:Shared}
end
end L2
set_option Elab.async false
set_option linter.all false
set_option maxRecDepth 100000
namespace L2
open PySem PySem.Spec PyProof.Rows PySem.W Pb
section
variable {prog:Program} {w:World} {A:Around} {E:Value->Shared->Prop} {s:Shared} {it d:Addr} {i ep:Nat} {es:Array DictEntry}
end
section
variable {prog:Program} {w:World} {A:Around} {E:Value->Shared->Prop} {s:Shared} {fin:Bool} {C:Bool->Shared->Prop}
end
section
variable {prog:Program} {w:World} {A:Around} {E:Value->Shared->Prop} {s:Shared}
end
section
variable {X:Cx}
end
end L2
set_option Elab.async false
set_option linter.all false
set_option maxRecDepth 100000
namespace L2
end L2
namespace Pb
open L2 PySem
section
variable {m:Int} {rs:List Road} {r:Int} {par:Int->Int} {dep:Int->Nat}
end
section
end
end Pb
set_option Elab.async false
set_option linter.all false
set_option maxRecDepth 100000
namespace L2
open PySem PySem.Spec PyProof.Rows
def yu (tk tv:TE):TE:=fun σ H Q=>∀ p,H p=none->kJ [(tk,tv)] σ (upd H p (.dT [])) fun ps H2=>H2 p=some (.dT [])/\∃ (k:List Key) (b:Addr) (y:V),ps=[(.ref b,y)]/\H2 b=some (.tup (k.map kV))/\Q (.ref p) (upd H2 p (.dT [(k,y)]))
end L2
set_option Elab.async false
set_option linter.all false
set_option maxRecDepth 100000
namespace Pb
open L2 PySem
end Pb
namespace Pb
open L2 PySem
section
variable {m:Int} {rs:List Road} {xs:List Int}
variable {r:Int} {par:Int->Int} {dep:Int->Nat}
end
end Pb
set_option Elab.async false
set_option linter.all false
set_option maxRecDepth 100000
namespace L2
open PySem PySem.Spec PyProof.Rows Pb
section
variable {X:Cx}
end
end L2
set_option Elab.async false
set_option linter.all false
set_option maxRecDepth 100000
namespace L2
open PySem PySem.Spec PyProof.Rows
theorem AE {j:Int} {n:Nat} (h0:j≠0) (h:j.natAbs<2^n) (hn:n<=9000):j.natAbs.log2<9000:=Nat.lt_of_lt_of_le ((Nat.log2_lt (by omega)).mpr h) hn
end L2
namespace Pb
end Pb
namespace L2
open PySem Pb
end L2
namespace L2
open PySem
theorem Ef {K:PySem.W.Frag} {i j:Nat} {a:Addr} {x y:V} {σ:St} {H:Hp} {Q:St->Hp->Prop} (h:SqT K H a [x,y]) (q:Q ((σ.set i (some x)).set j (some y)) H):yb K 2 (rS (lB i) (rS (lB j) gNil)) (.ref a) σ H Q :=
 ⟨a,_,rfl,h,rfl,_,_,rfl,_,_,rfl,rfl,q⟩
end L2
namespace L2
open PySem
end L2
namespace L2
open PySem PySem.Spec PyProof.Rows Pb
end L2
namespace L2
open PySem
end L2
set_option Elab.async false
set_option linter.all false
set_option maxRecDepth 100000
namespace Pb
open L2 PySem
section
variable {m:Int} {rs:List Road} {r:Int} {par:Int->Int} {dep:Int->Nat}
end
section
variable {m:Int} {rs:List Road} {xs:List Int}
end
end Pb
set_option Elab.async false
set_option linter.all false
set_option maxRecDepth 100000
namespace L2
open PySem PySem.Spec PyProof.Rows PySem.W Pb
section
variable {X:Cx} {pins:List (Addr × Obj)} {σ:St} {H:Hp} {s:Shared}
end
def Itd (d:Addr) (o:Obj) (kvs:List (List Key × V)):It :=
 ⟨fun i H=>H d=some (.frz o (.dT kvs))/\i<kvs.length,fun i H x H'=>H'=H/\∃ (q:Addr) (k:List Key) (v:V),x=.ref q/\kvs[i]?=some (k,v)/\H q=some (.tup (k.map kV)),fun i H=>H d=some (.frz o (.dT kvs))/\i=kvs.length⟩
def Cl (tl:TE) (g:TG) (tb:TS):TS:=fun D σ H=>tl σ H fun x H1=>∃ (d:Addr) (kvs:List (List Key × V)),x=.ref d/\H1 d=some (.dT kvs) /\
 ∀ o,ly (Itd d o kvs) { D with nx:=fun σ' H'=>H' d=some (.frz o (.dT kvs))/\D.nx σ' (upd H' d (.dT kvs)) } g tb σ (upd H1 d (.frz o (.dT kvs)))
section
variable {X:Cx} {tg:Expr}
end
end L2
set_option Elab.async false
set_option linter.all false
set_option maxRecDepth 100000
namespace Pb
open L2 PySem
section
variable {α β:Type}
end
section
variable {m:Int} {rs:List Road} {r:Int} {par:Int->Int} {dep:Int->Nat}
end
end Pb
namespace Pb
open L2 PySem
section
variable {m:Int} {rs:List Road} {r:Int} {par:Int->Int} {dep:Int->Nat} {to:Bool}
end
end Pb
namespace Pb
open L2 PySem
end Pb
namespace Pb
open L2 PySem
end Pb
set_option Elab.async false
set_option linter.all false
set_option maxRecDepth 100000
namespace L2
open PySem PySem.Spec PyProof.Rows
section
variable {X:Cx} {cx:Str} {Nc:List Str} {own:Nat} {js:List Nat} {scope:Scope} {cl:List (Str × Addr)}
end
section
variable {X:Cx} {cx:Str} {Nc:List Str} {own:Nat} {js:List Nat} {scope:Scope} {cl:List (Str × Addr)}
end
end L2
set_option Elab.async false
set_option linter.all false
set_option maxRecDepth 100000
namespace L2
open PySem PySem.Spec PyProof.Rows PySem.W
section
variable {X:Cx}
end
def Its (z:Str):It:=⟨fun i _=>i<z.cps.size,fun i H x H'=>H'=H/\∃ c,z.cps[i]?=some c/\x=.str ⟨#[c]⟩,fun i _=>z.cps.size<=i⟩
section
variable {X:Cx} {tg:Expr}
def DV (tl:TE):TI:=fun σ H R=>tl σ H fun x H1=>∃ z,x=.str z/\z.cps.all (·<128)=true/\R (Its z) H1
end
section
variable {P:Program} {w:World} {A:Around} {E:Value->Shared->Prop} {s:Shared}
end
section
variable {X:Cx} {e:Expr} {te:TE} {p2 apos cpos pos2:Pos} {z:Str} {zp:Pos} {zk:Nat}
def y7 (K:PySem.W.Frag) (z:Str) (te:TE):TE:=fun σ H Q=>te σ H fun x H1=>∃ (a:Addr) (ys:List Str),x=.ref a/\SqL K H1 a (ys.map V.str)/\(ys.map (·.length)).sum+ys.length*z.length<=16777216/\Q (.str (Str.join z ys.reverse)) H1
end
end L2
set_option Elab.async false
set_option linter.all false
set_option maxRecDepth 100000
namespace Pb
open L2 PySem PySem.W NumText
end Pb
set_option Elab.async false
set_option linter.all false
set_option maxRecDepth 100000
namespace L2
open PySem PySem.Spec PyProof.Rows PySem.W
end L2
namespace Pb
open L2 PySem PySem.W NumText
open PySem.StrLaws (At ChainG occ_tight partsBetween_eq partsFrom strSub_toList subAt_eq sub_whole)
section
variable {X:Str} {u c v:Nat}
end
end Pb
set_option Elab.async false
set_option linter.all false
set_option maxRecDepth 100000
namespace L2
open PySem PySem.Spec PyProof.Rows PySem.W
end L2
namespace Pb
open L2 PySem PySem.W NumText
end Pb
set_option Elab.async false
set_option linter.all false
set_option maxRecDepth 100000
namespace Pb
open L2 PySem
section
variable {m:Int} {rs:List Road} {r:Int} {par:Int->Int} {dep:Int->Nat} {held:Int->Int}
end
end Pb
set_option Elab.async false
set_option linter.all false
set_option maxRecDepth 100000
namespace L2
open PySem PySem.Spec PyProof.Rows
section
variable {prog:Program} {w:World} {A:Around} {E:Value->Shared->Prop} {R:Result->Shared->Prop} {s:Shared}
end
section
variable {M:Model} {A:Around} {E:Value->Shared->Prop} {s:Shared} {Q:Unit->Shared->Prop} {fs:List Addr} {ea T L:Addr} {cls fl hd:Value} {od:Option Addr} {base:Heap} {env:Env} {outer:List Env}
end
section
variable {P:Program} {w:World} {K:PySem.W.Frag} {mg:Str->Option Value} {base:Heap} {N:List Str} {qual:Str} {scope:Scope} {f:Addr} {cd:Value} {A:Around} {outer:List Env} {s:Shared} {H:Hp} {E:XK}
end
section
variable {X:Cx} {Nc:List Str} {own:Nat} {js:List Nat} {scope:Scope} {cl:List (Str × Addr)}
end
section
variable {X:Cx} {Nc:List Str} {own:Nat} {js:List Nat} {scope:Scope} {cl:List (Str × Addr)}
end
section
variable {X:Cx}
end
end L2
set_option Elab.async false
set_option linter.all false
set_option maxRecDepth 100000
namespace L2
open PySem PySem.Spec PyProof.Rows
section
variable {prog:Program} {w:World} {A:Around} {E:Value->Shared->Prop} {h:Heap} {g:Array GenState} {d:Drawn} {t:Nat} {os:OsState}
variable {nm q:Str} {C N:Addr} {bs bm bmB:List Value} {hdct:Bool} {sn:List Str} {sub:List Value} {ab:Bool} {col:Option Bool} {dd:Option Addr} {k0 k1 k2 k3 k5:Option Value} {B newId initId:String}
end
section
variable {M:Model} {A:Around} {E:Value->Shared->Prop} {env:Env}
variable {nm q:Str} {C N:Addr} {bs bm:List Value} {hdct:Bool} {sn:List Str} {sub:List Value} {ab:Bool} {col:Option Bool} {dd:Option Addr} {k0 k1 k2 k3 k5:Option Value} {newId:String}
end
section
variable {prog:Program} {w:World} {A:Around} {E:Value->Shared->Prop} {s:Shared} {env:Env}
variable {nm q:Str} {C N:Addr} {bs bm bmB:List Value} {hdct:Bool} {sn:List Str} {sub:List Value} {ab:Bool} {col:Option Bool} {dd:Option Addr} {k0 k1 k2 k3 k5:Option Value} {B newId initId:String}
end
section
variable {X:Cx} {pins:List (Addr × Obj)} {σ:St} {H:Hp} {s:Shared}
end
section
variable {P:Program} {w:World} {K:PySem.W.Frag} {mg:Str->Option Value} {base:Heap} {N:List Str} {qual:Str} {scope:Scope} {f:Addr} {cd:Value} {A:Around} {outer:List Env} {s:Shared} {H:Hp} {E:XK}
end
section
variable {X:Cx} {x:Str} {np cpos pos:Pos} {e0:Expr} {es:List Expr} {t:TA} {C fI:Addr} {E:XK} {CX:CXT} {k:Nat} {fd:FuncData} {ps:List Str} {sp:Sp}
end
section
variable {X:Cx} {x:Str} {np apos pos:Pos} {e0:Expr} {es:List Expr} {t:TA} {Tl:Addr} {pl:Sem Bool}
end
end L2
set_option Elab.async false
set_option linter.all false
set_option maxRecDepth 100000
namespace L2
open PySem PySem.Spec PyProof.Rows PySem.W PySem.Builtin PySem.Builtin.ObjectAttr
section
variable {K:PySem.W.Frag} {prog:Program} {w:World} {A:Around} {s:Shared} {x C Tl:Addr} {R:Result->Shared->Prop}
end
section
variable {X:Cx} {pins:List (Addr × Obj)} {σ:St} {H:Hp} {s:Shared}
end
section
variable {X:Cx} {pins:List (Addr × Obj)} {σ:St} {H:Hp} {s:Shared} {A:Around} {E:Value->Shared->Prop} {ea C Tl:Addr} {f:Str}
end
section
variable {X:Cx} {o value:Expr} {ta tv:TE} {f:Str} {pos pos':Pos}
end
section
variable {prog:Program} {w:World} {A:Around} {E:Value->Shared->Prop} {s:Shared} {K:PySem.W.Frag} {x C:Addr} {ox:Obj} {od:Obj}
end
section
variable {X:Cx} {o:Expr} {ta:TE} {f:Str} {pos:Pos}
end
end L2
set_option Elab.async false
set_option linter.all false
set_option maxRecDepth 100000
namespace L2
open PySem
def yW (K:PySem.W.Frag) (C':Addr) (ts:TS) (tr:TH):TH:=fun D σ cls od H=>∃ C b,cls=.ref C/\PySem.W.mroIn K C (.ref C')=some b/\if b=true then ts D σ H else tr D σ cls od H
section
variable {X:Cx} {x:Str} {np pos:Pos} {C':Addr} {b0:Stmt} {suite:List Stmt} {dU:List ExceptHandler} {ts:TS} {tr:TH}
end
end L2
namespace Pb
open L2 PySem
end Pb
set_option Elab.async false
set_option linter.all false
set_option maxRecDepth 100000
namespace Pb
open L2 PySem
section
variable {m:Int} {rs:List Road}
end
section
variable {m:Int} {rs:List Road} {r:Int} {par:Int->Int} {dep:Int->Nat} {st:Int->Int} {xs ys:List Int}
end
end Pb
set_option Elab.async false
set_option linter.all false
set_option maxRecDepth 100000
namespace L2
open PySem PySem.Spec PyProof.Rows
section
variable {X:Cx}
def C8 (t:TE):TE:=fun σ H Q=>t σ H fun x H1=>∃ b,x=.bl b/\Q (.bl (b == true)) H1
end
end L2
namespace Pb
open L2 PySem
section
variable {m:Int} {rs:List Road} {r:Int} {par:Int->Int} {dep:Int->Nat} {P:Int->Int} {xs:List Int}
end
end Pb
set_option Elab.async false
set_option linter.all false
set_option maxRecDepth 100000
namespace Pb
open L2 PySem
def Reach (rs:List Road) (ks:List Int):Prop:=∀ S:Int->Prop,S 0->(∀ r∈rs,(S r.a↔S r.b))->∀ k∈ks,S k
theorem Reach.start {rs:List Road}:Reach rs [0]:=fun S s0 _ k hk=>by rw [List.mem_singleton.mp hk];exact s0
theorem Reach.add {rs:List Road} {ks:List Int} (h:Reach rs ks) {p e:Int} (hp:p∈ks) (he:e∈cJ rs p):Reach rs (ks++[e]):=fun S s0 hS k hk=>by
 rcases List.mem_append.mp hk with z|z
 . exact h S s0 hS k z
 . rw [List.mem_singleton.mp z];have sp:=h S s0 hS p hp;obtain ⟨r,hr,y⟩:=lb.mp he;rcases y with ⟨y1,y2⟩|⟨y1,y2⟩
   . rw [<- y2];rw [<- y1] at sp;exact (hS r hr).mp sp
   . rw [<- y2];rw [<- y1] at sp;exact (hS r hr).mpr sp
theorem Reach.joined {m:Int} {rs:List Road} {ks:List Int} (h:Reach rs ks) (m0:0<=m) (nd:ks.Nodup) (rng:∀ k∈ks,0<=k/\k<m) (l:(ks.length:Int)=m):jx m rs:=fun S s0 hS v v0 v1=>by
 have all:v∈ks:=by
   refine Classical.byContradiction fun z=>?_;have:=dF m0 (iK nd z) fun x hx=>by
     rcases List.mem_append.mp hx with y|y
     . exact rng x y
     . rw [List.mem_singleton.mp y];exact ⟨v0,v1⟩
   rw [List.length_append,List.length_singleton] at this;omega
 exact h S s0 hS v all
def sg (rs:List Road) (ks:List Int):Prop:=∀ r∈rs,(r.a∈ks↔r.b∈ks)
theorem zt {m:Int} {rs:List Road} {ks:List Int} (m1:1<=m) (nd:ks.Nodup) (zero:0∈ks) (rng:∀ k∈ks,0<=k/\k<m) (sh:sg rs ks) (j:jx m rs):(ks.length:Int)=m:=by
 have up:=dF (by omega) nd rng;have:∀ v,0<=v->v<m->v∈ks:=j (fun v=>v∈ks) zero sh;have:=vq (by omega) this;omega
def ff (ks:List Int) (e:Int):List Int:=if e∈ks then ks else ks++[e]
theorem m6 {ks:List Int} {e x:Int}:x∈ff ks e↔x∈ks\/x=e:=by
 unfold ff;by_cases c:e∈ks
 . rw [if_pos c];exact ⟨.inl,fun z=>z.elim id fun y=>y ▸ c⟩
 . rw [if_neg c,List.mem_append,List.mem_singleton]
theorem sj {ks:List Int} {e:Int} (h:ks.Nodup):(ff ks e).Nodup:=by
 unfold ff;by_cases c:e∈ks
 . rw [if_pos c];exact h
 . rw [if_neg c];exact iK h c
theorem xh {ks:List Int} {e:Int} (h:e∈ks):ff ks e=ks:=by unfold ff;rw [if_pos h]
structure Turn (m:Int) (rs:List Road) (ks0:List Int) (i:Nat) (ks:List Int):Prop where
 nd:ks.Nodup
 sub:∀ k∈ks0,k∈ks
 rng:∀ k∈ks,0<=k/\k<m
 re:Reach rs ks
 got:∀ j r,j<i->rs[j]?=some r->(r.a∈ks0\/r.b∈ks0)->r.a∈ks/\r.b∈ks
 shut:sg rs ks0->ks=ks0
theorem Turn.start {m:Int} {rs:List Road} {ks:List Int} (nd:ks.Nodup) (rng:∀ k∈ks,0<=k/\k<m) (re:Reach rs ks):Turn m rs ks 0 ks :=
 ⟨nd,fun _ h=>h,rng,re,fun j r h=>absurd h (Nat.not_lt_zero _),fun _=>rfl⟩
theorem Turn.no {m:Int} {rs:List Road} {ks0 ks:List Int} {i:Nat} (t:Turn m rs ks0 i ks) {r:Road} (hr:rs[i]?=some r) (n:¬ (r.a∈ks\/r.b∈ks)):Turn m rs ks0 (i+1) ks :=
 ⟨t.nd,t.sub,t.rng,t.re,fun j x hj hx w=>by
   by_cases z:j=i
   . subst z;rw [hr] at hx;cases hx;exact absurd (w.imp (t.sub _) (t.sub _)) n
   . exact t.got j x (by omega) hx w,t.shut⟩
theorem Turn.yes {m:Int} {rs:List Road} {ks0 ks:List Int} {i:Nat} (t:Turn m rs ks0 i ks) {r:Road} (hr:rs[i]?=some r) (ok:RoadOk m r) (y:r.a∈ks\/r.b∈ks):Turn m rs ks0 (i+1) (ff (ff ks r.a) r.b):=by
 have rm:=List.mem_of_getElem? hr;have mem:∀ x,x∈ff (ff ks r.a) r.b↔(x∈ks\/x=r.a)\/x=r.b:=fun x=>by rw [m6,m6]
 refine ⟨sj (sj t.nd),fun k hk=>(mem k).mpr (.inl (.inl (t.sub k hk))),fun k hk=>?_,fun S s0 hS k hk=>?_,fun j x hj hx w=>?_,fun sh=>?_⟩
 . rcases (mem k).mp hk with (z|z)|z
   . exact t.rng k z
   . rw [z];exact ⟨ok.a0,ok.a1⟩
   . rw [z];exact ⟨ok.b0,ok.b1⟩
 . have both:S r.a/\S r.b:=by
     rcases y with y|y
     . have:=t.re S s0 hS _ y;exact ⟨this,(hS r rm).mp this⟩
     . have:=t.re S s0 hS _ y;exact ⟨(hS r rm).mpr this,this⟩
   rcases (mem k).mp hk with (z|z)|z
   . exact t.re S s0 hS k z
   . rw [z];exact both.1
   . rw [z];exact both.2
 . by_cases z:j=i
   . subst z;rw [hr] at hx;cases hx;exact ⟨(mem _).mpr (.inl (.inr rfl)),(mem _).mpr (.inr rfl)⟩
   . obtain ⟨h1,h2⟩:=t.got j x (by omega) hx w;exact ⟨(mem _).mpr (.inl (.inl h1)),(mem _).mpr (.inl (.inl h2))⟩
 . have e:=t.shut sh;rw [e] at y ⊢;have both:r.a∈ks0/\r.b∈ks0:=by
     rcases y with y|y
     . exact ⟨y,(sh r rm).mp y⟩
     . exact ⟨(sh r rm).mpr y,y⟩
   rw [xh both.1,xh both.2]
theorem Turn.done {m:Int} {rs:List Road} {ks0 ks:List Int} (t:Turn m rs ks0 rs.length ks) (nd0:ks0.Nodup):sg rs ks\/ks0.length+1<=ks.length:=by
 by_cases sh:sg rs ks0
 . rw [t.shut sh];exact .inl sh
 . right
   have:∃ r∈rs,¬ (r.a∈ks0↔r.b∈ks0):=Classical.byContradiction fun z=>sh fun r hr=>Classical.byContradiction fun w=>z ⟨r,hr,w⟩;obtain ⟨r,hr,n⟩:=this;obtain ⟨i,hi⟩:=List.getElem?_of_mem hr;have il:=(List.getElem?_eq_some_iff.mp hi).1;have one:∃ e,e∈ks/\e ∉ ks0:=by
     by_cases ha:r.a∈ks0
     . exact ⟨r.b,(t.got i r il hi (.inl ha)).2,fun z=>n ⟨fun _=>z,fun _=>ha⟩⟩
     . by_cases hb:r.b∈ks0
       . exact ⟨r.a,(t.got i r il hi (.inr hb)).1,ha⟩
       . exact absurd ⟨fun z=>absurd z ha,fun z=>absurd z hb⟩ n
   obtain ⟨e,he,hn⟩:=one;have:=g0 (l:=ks0++[e]) (l':=ks) (iK nd0 hn) fun x hx=>by
     rcases List.mem_append.mp hx with y|y
     . exact t.sub x y
     . rw [List.mem_singleton.mp y];exact he
   rw [List.length_append,List.length_singleton] at this;exact this
theorem qy {m:Int} {r:Road}:RoadOk m r↔((0<=r.a/\r.a<m)/\(0<=r.b/\r.b<m)/\r.a≠r.b)/\((2<=r.t/\r.t<=1000000)/\(2<=r.u/\r.u<=1000000)) :=
 ⟨fun h=>⟨⟨⟨h.a0,h.a1⟩,⟨h.b0,h.b1⟩,h.ne⟩,⟨h.t0,h.t1⟩,⟨h.u0,h.u1⟩⟩,fun ⟨⟨a,b,c⟩,d,e⟩=>⟨a.1,a.2,b.1,b.2,c,d.1,d.2,e.1,e.2⟩⟩
def Bar (p:Addr) (H H':Hp):Prop:=∀ b o,H b=some o->b≠p->H' b=some o
theorem Bar.refl (p:Addr) (H:Hp):Bar p H H:=fun _ _ e _=>e
theorem Bar.pot {p:Addr} {H H':Hp} (h:Bar p H H') (z:HO):Bar p H (upd H' p z):=fun b o e n=>by rw [ao n];exact h b o e n
theorem Bar.put {p:Addr} {H H':Hp} (h:Bar p H H') {t:Addr} (ht:H t=none) (z:HO):Bar p H (upd H' t z):=fun b o e n=>by rw [ao (az e ht)];exact h b o e n
theorem Bar.trans {p:Addr} {H H' H2:Hp} (h:Bar p H H') (h2:Bar p H' H2):Bar p H H2:=fun b o e n=>h2 b o (h b o e n) n
theorem Bar.same {p:Addr} {H H' H2:Hp} (h:Bar p H H') (h2:Same H' H2):Bar p H H2:=fun b o e n=>h2 _ _ (h b o e n)
theorem Bar.free {p:Addr} {H H':Hp} (h:Bar p H H') {t:Addr} {x:HO} (hp:H p=some x) {y:HO} (hp':H' p=some y) (ht:H' t=none):H t=none:=by
 rcases e:H t with _|o
 . rfl
 . by_cases z:t=p
   . subst z;rw [hp'] at ht;cases ht
   . rw [h t o e z] at ht;cases ht
theorem RoadsAt.bar {p:Addr} {H H':Hp} (e:Bar p H H') {w:Int} (hp:H p=some (.lst [.int w])) {ps:List Addr} {rs:List Road} (h:RoadsAt H ps rs):RoadsAt H' ps rs :=
 Paired.imp' (fun q r x=>e q _ x (fun z=>by rw [z,hp] at x;cases x)) h
theorem Ar {α:Type} {xs:List α} {i:Int} (h0:0<=i) (h1:i<xs.length):∃ v∈xs,atI xs i=some v:=by
 have:i.toNat<xs.length:=by omega
 exact ⟨xs[i.toNat],List.getElem_mem this,gY h0 (List.getElem?_eq_getElem this)⟩
theorem pG (x:Int) {n:Int} (h:0<n):0<=x % n/\x % n<n:=⟨Int.emod_nonneg x (Int.ne_of_gt h),Int.emod_lt_of_pos x h⟩
theorem lR {x:Int} {xs:List Int} (h:0<(xs.length:Int)):∃ v∈xs,atI (xs.map V.int) (x % (xs.length:Int))=some (.int v):=by
 obtain ⟨v,hv,e⟩:=Ar (xs:=xs.map V.int) (pG x h).1 (by rw [List.length_map];exact (pG x h).2);obtain ⟨w,hw,rfl⟩:=List.mem_map.mp hv;exact ⟨w,hw,e⟩
theorem t9:((10:Int)^Int.toNat 50)<1073741824\/((10:Int)^Int.toNat 50).natAbs<2^4000:=.inr (fw (m:=200) (by decide +kernel) (by decide))
theorem Cn {H:Hp} {ps:List Addr} {rs:List Road} (h:RoadsAt H ps rs) {i:Int} (i0:0<=i) (i1:i<rs.length):∃ q r,atI (ps.map V.ref) i=some (.ref q)/\H q=some (.tup (bN r)):=by
 have hl:ps.length=rs.length:=Paired.length h;have:i.toNat<(ps.map V.ref).length:=by rw [List.length_map];omega
 obtain ⟨q,r,e,_,_,x⟩:=h.get (List.getElem?_eq_getElem this);exact ⟨q,r,gY i0 (by rw [List.getElem?_eq_getElem this,e]),x⟩
theorem CU {H:Hp} {ps:List Addr} {rs:List Road} (h:RoadsAt H ps rs) (lo hi:Option Int):∃ ps' rs',oy (ps.map V.ref) lo hi=ps'.map V.ref/\RoadsAt H ps' rs'/\rs'.length<=rs.length:=by
 unfold oy;rw [List.length_map,<- List.map_drop,<- List.map_take];refine ⟨_,_,rfl,sG _ (xa _ h),?_⟩;rw [List.length_take,List.length_drop];omega
theorem t7 {K:PySem.W.Frag} {H:Hp} {l:Addr} {ps:List Addr} {rs:List Road} {lo hi:Option Int} {Q:VK} (hl:H l=some (.lst (ps.map V.ref))) (ro:RoadsAt H ps rs)
   (q:∀ t H' ps' rs',H t=none->Same H H'->H' t=some (.lst (ps'.map V.ref))->RoadsAt H' ps' rs'->rs'.length<=rs.length->Q (.ref t) H'):xI K (.ref l) lo hi H Q:=by
 obtain ⟨ps',rs',e,r,n⟩:=CU ro lo hi;refine ⟨l,_,rfl,SqL.of hl,fun t ht=>?_⟩;rw [e];exact q t _ ps' rs' ht (Same.new _ ht) ag (RoadsAt.same (Same.new _ ht) r) n
theorem rQ {H:Hp} {a b:Addr} {ps qs:List Addr} {rs ss:List Road} {Q:VK} (ha:H a=some (.lst (ps.map V.ref))) (hb:H b=some (.lst (qs.map V.ref))) (ra:RoadsAt H ps rs) (rb:RoadsAt H qs ss) (n:rs.length+ss.length<=1000)
   (q:∀ t H' ps' rs',H t=none->Same H H'->H' t=some (.lst (ps'.map V.ref))->RoadsAt H' ps' rs'->rs'.length<=rs.length+ss.length->Q (.ref t) H'):rCat (.ref a) (.ref b) H Q:=by
 have l1:ps.length=rs.length:=Paired.length ra;have l2:qs.length=ss.length:=Paired.length rb;refine ⟨a,b,_,_,rfl,rfl,ha,hb,aD (by rw [List.length_map,List.length_map];omega),fun t ht=>?_⟩;exact q t _ (ps++qs) (rs++ss) ht (Same.new _ ht) (by rw [ag,List.map_append]) (RoadsAt.same (Same.new _ ht) (zc rb ra)) (by rw [List.length_append];omega)
end Pb
set_option Elab.async false
set_option linter.all false
set_option maxRecDepth 100000
namespace L2
open PySem PySem.Spec PyProof.Rows
theorem tK:entryFor table "proto.unchain"=some Builtin.«proto.unchain»:=entryFor_of_tree (by kernel_rfl)
section
variable {prog:Program} {w:World} {A:Around} {E:Value->Shared->Prop} {s:Shared}
theorem uU {ea:Addr} {oe:Obj} {vs:Array Value} {v slow:Value} {t:Bool} {R:Result->Shared->Prop} (he:s.heap.get? ea=some oe) (hd:oe.data=.fields vs) (h2:vs[2]?=some .none) (h:R (.ok (.ret .none)) s) :
   codeAny (model prog w) A (.builtin "proto.unchain" ⟨[v,.ref ea,slow,.bool t],[]⟩) R s:=by
 refine codeAny_builtin tK ?_;show wpAny _ _ (field (.ref ea) 2 >>= _) _ _ s;refine wpAny_bind (wpAny_field he hd h2 ?_);exact wpAny_pure h
theorem tT {α:Type} {ea b:Addr} {oe ob:Obj} {vs us:Array Value} {Q:α->Shared->Prop} (hh:A.handled=some (.ref ea)) (he:s.heap.get? ea=some oe) (hd:oe.data=.fields vs) (h2:vs[2]?=some .none) (hb:s.heap.get? b=some ob) (hu:ob.data=.fields us) (h3:2<us.size) (ne:ea≠b)
   (h:E (.ref b) { s with heap:=s.heap.update b (Obj.mapFields (·.setIfInBounds 2 (.ref ea))) }):wpAny (model prog w) A (raiseNew (.ref b):Sem α) Q E s:=by
 simp only [raiseNew];refine wpAny_bind (wpAny_handled ?_);rw [hh];have hne:(Value.ref ea != Value.ref b)=true:=by simp [bne_iff_ne,ne]
 simp only [hne,if_true];refine wpAny_bind (wpAny_holding (wpAny_runValue (uU he hd h2 ?_)));refine wpAny_bind ?_;unfold updateField;refine wpAny_bind (wpAny_load hb ?_);simp only [hu,if_pos h3];exact wpAny_update hb (wpAny_throw h)
theorem xx {it ea:Addr} {x left step:Int} {oe:Obj} {vs:Array Value} {Q:Option Value->Shared->Prop} (hh:A.handled=some (.ref ea)) (he:s.heap.get? ea=some oe) (hd:oe.data=.fields vs) (h2:vs[2]?=some .none) (hit:IsRangeIter s.heap it x left step) (hleft:left<=0)
   (hQ:∀ h',Heap.ExtBut it s.heap h'->Q none { s with heap:=h' }):wpAny (model prog w) A (pyNext (.ref it)) Q E s:=by
 have hT:s.TypeIs (.ref it) "range_iterator":=⟨_,hit,rfl⟩;unfold pyNext;refine wpAny_bind (wpAny_attempt (wpAny_callSpecial?_slot (name:=Str.ofString "__next__") hT F.slot_range_iterator_next
   (wpAny_call_entry F.slot_range_iterator_next hT F.entry_range_iterator_next ?_ (F.args_range_iterator_next_1 _))))
 show wpAny _ _ (field (.ref it) 0 >>= _) _ _ s;refine wpAny_bind (wpAny_field hit rfl (x:=rawInt x) rfl ?_);show wpAny _ _ (field (.ref it) 1 >>= _) _ _ s;refine wpAny_bind (wpAny_field hit rfl (x:=rawInt left) rfl ?_);show wpAny _ _ (field (.ref it) 2 >>= _) _ _ s;refine wpAny_bind (wpAny_field hit rfl (x:=rawInt step) rfl ?_);show wpAny _ _ (if left<=0 then _ else _) _ _ s;rw [if_pos hleft];refine wpAny_bind (wpAny_rule ?_);refine wpAny_bind ?_;show wpAny _ _ (newExc (.type "StopIteration") [] >>= _) _ _ _;refine wpAny_bind ?_;simp only [newExc,newTuple];refine wpAny_bind (wpAny_newObj_type ?_ (by size_fits));refine wpAny_bind (m:=firstArgMember _ _) (wpAny_of_eq (a:=Value.none) (by first|rfl|(simp only [firstArgMember];rfl)) ?_);refine wpAny_newObj_type ?_ (by size_fits);refine tT (A:=A.in1) hh (Heap.get?_push_of_some _ (Heap.get?_push_of_some _ he)) hd h2 (Heap.get?_push_size _ rfl) rfl (by simp [ownMembersOf]) ?_ ?_
 . have:=Heap.lt_size he;rw [Heap.size_push];exact Nat.ne_of_lt (Nat.lt_succ_of_lt this)
 refine wpAny_bind (wpAny_isInstance (T:="StopIteration") (b:=true) ⟨_,Heap.get?_update_self _ (Heap.get?_push_size _ rfl) rfl,rfl⟩ isSubtype_stop ?_);refine wpAny_pure (hQ _ fun b o nb eb=>?_);rw [Heap.get?_update_other]
 . exact Heap.get?_push_of_some _ (Heap.get?_push_of_some _ eb)
 . have:=Heap.lt_size eb;rw [Heap.size_push];exact Nat.ne_of_gt (Nat.lt_succ_of_lt this)
end
structure TurnH (ea:Addr) (P:Program) (w:World) (K:PySem.W.Frag) (tg:Expr) (J:It) (fp:List Addr) (it:Addr) (tn:Nat->Heap->Prop):Prop where
 mem:it∈fp
 obj:∀ i h,tn i h->∀ b∈fp,∃ o,h.get? b=some o/\∀ v,o.data≠.cell v
 keep:∀ i h h',tn i h->(∀ b∈fp,∀ o,h.get? b=some o->h'.get? b=some o)->tn i h'
 item:∀ (X:Cx),X.prog=P->X.w=w->X.K=K->X.A.handled=some (.ref ea)->∀ (i:Nat) (pins:List (Addr × Obj)) (s:Shared) (σ:St) (H:Hp) (E:Value->Shared->Prop),Inv X pins σ H s->(∀ b∈fp,fi X pins H b)->tn i s.heap->J.go i H ->
   wpAny (model P w) X.A (pyNext (.ref it)) (fun r s1=>∃ u,r=some u /\
     wpAny (model P w) X.A (letOwnedTupleGo tg (.ref it) u) (fun _ s2=>∃ x H',Inv X pins σ H' s2/\RelV x u/\J.yld i H x H'/\tn (i+1) s2.heap/\∀ b∈fp,H' b=none) E s1) E s
 done:∀ (X:Cx),X.prog=P->X.w=w->X.K=K->X.A.handled=some (.ref ea)->∀ (i:Nat) (pins:List (Addr × Obj)) (s:Shared) (σ:St) (H:Hp) (E:Value->Shared->Prop),Inv X pins σ H s->(∀ b∈fp,fi X pins H b)->tn i s.heap->J.stop i H ->
   wpAny (model P w) X.A (pyNext (.ref it)) (fun r s1=>r=none/\Inv X pins σ H s1) E s
 self:∀ (A:Around) (i:Nat) (s:Shared) (Q:Value->Shared->Prop) (E:Value->Shared->Prop),tn i s.heap->Q (.ref it) s->wpAny (model P w) A (pyIter (.ref it)) Q E s
def DK (X:Cx) (ea:Addr) (pins:List (Addr × Obj)) (σ:St) (tg:Expr) (R:It->Hp->Prop) (itv:Value) (s2:Shared):Prop :=
 ∃ (it:Addr) (fp:List Addr) (tn:Nat->Heap->Prop) (J:It) (H':Hp),itv=.ref it/\Inv X pins σ H' s2/\TurnH ea X.prog X.w X.K tg J fp it tn/\tn 0 s2.heap/\(∀ b∈fp,fi X pins H' b)/\R J H'
def PIH (X:Cx) (ea:Addr) (tg iter:Expr) (wi:TI):Prop :=
 ∀ (pins:List (Addr × Obj)) (s:Shared) (σ:St) (H:Hp) (R:It->Hp->Prop),Inv X pins σ H s->wi σ H R ->
   wpAny (model X.prog X.w) X.A (eval iter X.env) (fun v s1=>wpAny (model X.prog X.w) X.A (pyIter v) (DK X ea pins σ tg R) X.xe s1) X.xe s
def yl (ea:Addr) (lo:Int) (n:Nat):It:=⟨fun i _=>i<n,fun i H x H'=>H'=H/\x=.int (lo+i),fun i H=>n<=i/\∃ cls od,H ea=some (ExO ea cls od)⟩
theorem vt {P:Program} {w:World} {K:PySem.W.Frag} {tg:Expr} (ea it:Addr) (lo:Int) (n:Nat):TurnH ea P w K tg (yl ea lo n) [it] it (fun i h=>IsRangeIter h it (lo+(i:Int)*1) ((n:Int) - i) 1) where
 mem:=by simp
 obj:=fun i h st b hb=>by
   have e:b=it:=by simpa using hb
   subst e;exact ⟨_,st,fun v z=>by
     have z':Data.fields _=Data.cell v:=z;cases z'⟩
 keep:=fun i h h' st k=>k it (by simp) _ st
 item:=by
   intro X hP hw hK hc i pins s σ H E I hf st hg;subst hP hw hK;obtain ⟨f0,f1,f2,f3,f4,f5⟩:=hf it (by simp);refine wpAny_pyNext_range_item st (by have:i<n:=hg;omega) fun h' st' kk=>?_;have I1:Inv X pins σ H { s with heap:=h',toks:=s.toks+1 }:=I.turned (fun b o hb e=>kk.extBut b o hb e) f0 f1 f3 f4 f5;have st2:IsRangeIter h' it (lo+((i+1:Nat):Int)*1) ((n:Int) - ((i+1:Nat):Int)) 1:=by
     have e1:lo+(i:Int)*1+1=lo+((i+1:Nat):Int)*1:=(by omega);have e2:(n:Int) - i - 1=(n:Int) - ((i+1:Nat):Int):=(by omega);rw [<- e1,<- e2];exact st'
   refine ⟨_,rfl,ub (s:={ s with heap:=h',toks:=s.toks+1 }) (n:="range_iterator") st2 rfl rfl (by decide) ⟨.int (lo+i),H,I1,⟨s.toks,?_⟩,⟨rfl,rfl⟩,st2,fun b hb=>(hf b hb).1⟩⟩;rw [Int.mul_one]
 done:=by
   intro X hP hw hK hc i pins s σ H E I hf st hg;subst hP hw hK;obtain ⟨f0,f1,f2,f3,f4,f5⟩:=hf it (by simp);obtain ⟨hn,cls,od,hx⟩:=hg;obtain ⟨⟨oe,vs,h1,h2,h3,h4,h5⟩,_⟩:=(show ObjOk X.prog X.w H s.heap ea (ExO ea cls od) from I.hok ea _ hx);exact xx hc h1 h4 h5 st (by omega) fun h' eb=>⟨rfl,I.turned (t':=s.toks) (fun b o hb e=>eb b o hb e) f0 f1 f3 f4 f5⟩
 self:=fun _ _ _ _ _ st h=>wpAny_pyIter_rangeiter st h
section
variable {X:Cx} {tg:Expr} {Nc:List Str} {own:Nat} {js:List Nat} {scope:Scope} {cl:List (Str × Addr)}
def zH (ea:Addr) (ta:TA):TI:=fun σ H R=>ta σ H fun vs H1=>∃ j:Int,vs=[.int j]/\-(2^62)<=j/\j<2^62/\R (yl ea 0 j.toNat) H1
theorem zB {ea:Addr} {pins:List (Addr × Obj)} {σ:St} {H:Hp} {s:Shared} {R:It->Hp->Prop} {E:Value->Shared->Prop} {lo hi:Int} {t u v:Tok} {tk:Nat} (I:Inv X pins σ H s) (h1:-(2^62)<=lo) (h2:lo<2^62) (h3:-(2^62)<=hi) (h4:hi<2^62)
   (q:R (yl ea lo (hi - lo).toNat) H):wpAny (model X.prog X.w) X.A (pyIter (.ref s.heap.objs.size)) (DK X ea pins σ tg R) E { s with heap:=s.heap.push { cls:=.type "range",data:=.fields #[.int lo t,.int hi u,.int 1 v] },toks:=tk }:=by
 refine wpAny_pyIter_range (IsRange.new ..) (small_one h1 h2 h3 h4) ?_;generalize hg:s.heap.push { cls:=.type "range",data:=.fields #[.int lo t,.int hi u,.int 1 v] }=g;have I1:Inv X pins σ H { s with heap:=g,toks:=tk }:=hg ▸ I.kept fun b o e=>Heap.get?_push_of_some _ e;refine ⟨g.objs.size,[g.objs.size],_,_,H,rfl,I1.kept (t':=tk) fun b o e=>Heap.get?_push_of_some _ e,vt ea _ lo (hi - lo).toNat,?_,fun b hb=>?_,q⟩
 . have e1:lo+((0:Nat):Int)*1=lo:=by simp
   have e2:(((hi - lo).toNat:Nat):Int) - ((0:Nat):Int)=Builtin.Range.rangeSize lo hi 1:=by rw [rangeSize_one];split <;> omega
   show IsRangeIter _ _ (lo+((0:Nat):Int)*1) ((((hi - lo).toNat:Nat):Int) - ((0:Nat):Int)) 1;rw [e1,e2];exact Heap.get?_push_size _ rfl
 . have e:b=g.objs.size:=by simpa using hb
   subst e;exact I1.fpOk (Nat.le_refl _) (I1.hok.fresh (Nat.le_refl _))
theorem xX {ea:Addr} {a:Expr} {ta:TA} {p pos:Pos} (hg:Gl X "range") (hm:X.mg "range"=none) (ha:PA X [a] ta) (hs:starEach [a] X.env=[(false,eval a X.env)]:=by rfl):PIH X ea tg (.Call (.Name "range" p) [a] [] pos) (zH ea ta):=by
 intro pins s σ H R I h;refine Call_ (kO I hg hm boot_range (PyProof.Rows.callWith_type1 (mZ (ha pos pins s σ H _ I h) fun us s1 vs H1 I1 r1 q1=>?_) hs rfl));obtain ⟨j,e,q1,q2,q⟩:=q1;subst e;cases r1 with
 | cons r rr =>
   cases rr;obtain ⟨t,rfl⟩:=r;exact call_range_1 (zB I1 (by omega) (by omega) q1 q2 (by simpa using q))
theorem Bl {ea:Addr} {elt target iter:Expr} {ifs:List Expr} {pos:Pos} {wi:TI} {g:TG} {tc:TT} {te:TE} (hc:X.A.handled=some (.ref ea)) (T:CompTxt X Nc own js scope cl)
   (hi:PIH X ea target iter wi) (hg:∀ C s₂ H₁ fp,PG (X.comp Nc scope cl C s₂ H₁ fp) target g) (ht:∀ C s₂ H₁ fp,PTs (X.comp Nc scope cl C s₂ H₁ fp) ifs tc)
   (he:∀ C s₂ H₁ fp,PE (X.comp Nc scope cl C s₂ H₁ fp) elt te) (hs:∀ x,foldedSetIterable iter X.env x=pure x:=by intro _;rfl) :
   PE X (.ListComp elt [⟨target,iter,ifs,0⟩] scope pos) (t6 own js wi g tc te):=by
 intro pins s σ H Q I h;rw [eval_ListComp];refine wpAny_comprehension_free (use:=none) rfl hs T.clos T.kind T.names (thn (hi pins s σ H _ I h) fun v s1 h1=>thn h1 fun itv s2 h2=>?_);obtain ⟨it,fp,tn,J,H1,rfl,I1,Tn,st,f1,R⟩:=h2;have hfp:∀ b∈fp,b<s2.heap.objs.size:=fun b hb=>let ⟨o,e,_⟩:=Tn.obj _ _ st b hb;Heap.lt_size e;refine wpAny_newObj_type (wpAny_newFunctionEnv T.nocell (by intro y hy;simp at hy) (fun h₁ hns₁ hsb₁=>?_) T.kind);dsimp only at hns₁ hsb₁ ⊢;generalize hH2:s2.heap.push { cls:=.type "list",dict:=none,data:=.seq ([]:List Value).toArray }=H2 at hns₁ hsb₁ ⊢;have hC:H2.objs.size=s2.heap.objs.size+1:=by rw [<- hH2,Heap.size_push]
 have hDC:s2.heap.objs.size≠H2.objs.size:=by rw [hC];exact Nat.ne_of_lt (Nat.lt_succ_self _)
 have hCle:s2.heap.objs.size<=H2.objs.size:=by rw [hC];exact Nat.le_succ _
 have below:∀ b,b<s2.heap.objs.size->b≠H2.objs.size:=fun b hb=>by rw [hC];exact Nat.ne_of_lt (Nat.lt_succ_of_lt hb)
 have old:∀ b o,s2.heap.get? b=some o->h₁.get? b=some o:=fun b o e=>hsb₁.extBut b o (below b (Heap.lt_size e)) (Heap.get?_push_of_some _ (hH2 ▸ Heap.get?_push_of_some _ e));have hacc:∃ n,h₁.get? s2.heap.objs.size=some { cls:=.type "list",data:=.seq ([]:List Value).toArray n }:=⟨_,hsb₁.extBut _ _ hDC (Heap.get?_push_of_some _ (hH2 ▸ Heap.get?_push_size _ rfl))⟩;have st₁:tn 0 h₁:=Tn.keep _ _ _ st fun b _ o e=>old b o e;obtain ⟨W,⟨m0,w0⟩,turn⟩:=R s2.heap.objs.size I1.fresh;have Ic:=qx (t:=s2.toks+([]:List (Str × Value)).length) T I1 hCle (Nat.le_refl _) hDC f1 hfp old hns₁ hacc;generalize hXc:X.comp Nc scope cl H2.objs.size s2 H1 fp=Xc at Ic;have stat:∀ {H':Hp},(∀ b∈fp,H' b=none)->∀ b∈fp,fi Xc [] H' b:=fun {H'} hn b hb=>by
   subst hXc;exact ⟨hn b hb,below b (hfp b hb),(pA T I1 hCle f1 hfp).exfs b hb,.inl hb,fun x c e=>(f1 b hb).2.2.2.2.1 x c (T.cells x c e),fun p hp=>by cases hp⟩
 have fr0:∀ b∈fp,upd H1 s2.heap.objs.size (.lst []) b=none:=fun b hb=>by
   rw [ao (Nat.ne_of_lt (hfp b hb))];exact (f1 b hb).1
 have loop:∀ s₃:Shared,s₃={ s2 with heap:=h₁,toks:=s2.toks+([]:List (Str × Value)).length } ->
     codeAny (model X.prog X.w) X.A (.compLoop (.ListComp elt [⟨target,iter,ifs,0⟩] scope pos) 0 (.ref it) (.ref s2.heap.objs.size) (compEnvC scope cl H2.objs.size X.env))
       (compPost (model X.prog X.w) X.A X.xe none (EP X pins σ Q) (.ref s2.heap.objs.size) H2.objs.size) s₃:=by
   rintro s₃ rfl;refine kr (fun n s'=>∃ i ys σ' H',Inv Xc [] σ' H' s'/\tn i s'.heap/\(∀ b∈fp,H' b=none)/\W i n ys σ' H') ?_ m0 ⟨0,[],_,_,Ic,st₁,fr0,w0⟩;rintro n s3 ⟨i,ys,σ3,H3,I3,st3,fr3,w3⟩;rcases turn i n ys σ3 H3 w3 with ⟨stop,q⟩|⟨go,step⟩
   . subst hXc;refine thn (Tn.done (X.comp Nc scope cl H2.objs.size s2 H1 fp) rfl rfl rfl hc i [] s3 σ3 H3 _ I3 (stat fr3) st3 stop) fun r s4 ⟨hr,I4⟩=>?_;subst hr;obtain ⟨m4,hn4,_⟩:=id I4.loc;exact ⟨m4,hn4,fun h' hs'=>⟨.ref s2.heap.objs.size,H3,oF I1 hCle f1 I4 hs',rfl,q⟩⟩
   . subst hXc;refine thn (Tn.item (X.comp Nc scope cl H2.objs.size s2 H1 fp) rfl rfl rfl hc i [] s3 σ3 H3 _ I3 (stat fr3) st3 go) fun r s4 ⟨u,hr,h4⟩=>?_;subst hr;refine thn h4 fun _ s5 ⟨x,H5,I5,r5,y5,st5,fr5⟩=>?_;have I5':=I5.pinned (stat fr5) (Tn.obj _ _ st5);have back:∀ {σ7:St} {H7:Hp} {s7:Shared},Inv (X.comp Nc scope cl H2.objs.size s2 H1 fp) ([]++jo fp s5.heap) σ7 H7 s7->Inv (X.comp Nc scope cl H2.objs.size s2 H1 fp) [] σ7 H7 s7/\tn (i+1) s7.heap/\∀ b∈fp,H7 b=none:=fun {σ7 H7 s7} I7=>by
       refine ⟨I7.unpinned,Tn.keep _ _ _ st5 fun b hb o e=>(I7.pin (b,o) (List.mem_append_right _ (List.mem_append_right _ (dL hb e)))).1,fun b hb=>?_⟩;obtain ⟨o,e,d⟩:=Tn.obj _ _ st5 b hb;exact (I7.pin (b,o) (List.mem_append_right _ (List.mem_append_right _ (dL hb e)))).2.1
     refine thn (hg _ _ _ _ _ s5 σ3 H5 x u _ I5' r5 (step x H5 y5)) fun _ s6 ⟨σ6,H6,I6,q6⟩=>?_;refine sH (ht _ _ _ _ _ s6 σ6 H6 _ I6 q6) fun ok s7 H7 I7 q7=>?_;cases ok with
     | false =>
       rw [if_neg Bool.false_ne_true] at q7 ⊢;obtain ⟨m',hm,w7⟩:=q7;obtain ⟨J1,J2,J3⟩:=back I7;exact ⟨m',hm,i+1,ys,σ6,H7,J1,J2,J3,w7⟩
     | true =>
       rw [if_pos rfl] at q7 ⊢;refine bd (he _ _ _ _ _ s7 σ6 H7 _ I7 q7) fun y s8 yv H8 I8 r8 ⟨hp8,hl8,m',hm,w8⟩=>?_;refine thn (fm _ s8 σ6 H8 (.ref s2.heap.objs.size) [yv] _ [y] (fun v' H'=>W (i+1) m' (ys++[yv]) σ6 H') I8 rfl (.cons r8 .nil) ⟨_,ys,yv,rfl,rfl,hp8,hl8,w8⟩) fun v9 s9 ⟨_,H9,I9,_,w9⟩=>?_;obtain ⟨J1,J2,J3⟩:=back I9;exact ⟨m',hm,i+1,ys++[yv],σ6,H9,J1,J2,J3,w9⟩
 exact codeAny_compStart_list (loop _ rfl) (Tn.self _ 0 _ _ _ st₁ (loop _ rfl))
end
def za (K:PySem.W.Frag) (C':Addr) (i:Nat) (ts:Addr->TS) (tr:TH):TH:=fun D σ cls od H=>∃ C b,cls=.ref C/\PySem.W.mroIn K C (.ref C')=some b /\
 if b=true then ∀ ea,H ea=none->ts ea (D.less i) (σ.set i (some (.ref ea))) (upd H ea (ExO ea cls od)) else tr D σ cls od H
section
variable {X:Cx} {x n:Str} {np pos:Pos} {i:Nat} {C':Addr} {b0:Stmt} {suite:List Stmt} {dU:List ExceptHandler} {ts:Addr->TS} {tr:TH}
theorem DS (c':XCls X.K C') (hg:Gl X x) (hm:X.mg x=some (.ref C')) (hN:X.N.Nodup) (hi:X.N[i]?=some n) (hl:X.env.scope.names.lookup n=some .local) (hb:∀ ea,PSs (X.held (.ref ea)).nox (b0::suite) (ts ea)) (hr:PHs X dU tr) (hdb:(x == ("__debug__":Str))=false:=by decide) :
   PHs X (.ExceptHandler (some (.Name x np)) (some n) (b0::suite) pos::dU) (za X.K C' i ts tr):=by
 intro pins s σ H D ea T cls od I er le lt h;obtain ⟨C,b,rfl,m,q⟩:=h;refine wpAny_handleBy_cons (codeAny_handlers_test (iP (X:=X.held (.ref ea)) (I.held _) hg hm ?_ hdb)) (by intro z;cases z);obtain ⟨oe,vs,h1,h2,h3,h4,h5,h6⟩:=id er.e;refine vS I.kIn ⟨oe,h1,h2⟩ c' m ?_;cases b with
 | false=>exact hr pins s σ H D ea T _ od I er le lt (by simpa using q)
 | true =>
   rw [if_pos rfl] at q;refine codeAny_handlers_suite_as (pr (fs:=frs X.stack) er fun h' er' k=>?_);have I1:Inv X pins σ H { s with heap:=h' }:=I.moved (tk:=s.toks) k fun b hb=>by rw [List.mem_singleton.mp hb];exact lt.all
   have I2:=(I1.trackX le er'.e).held (.ref ea);refine m8 (X:=X.held (.ref ea)) (v:=V.ref ea) I2 hN hi (.inl hl) rfl (fun s2 I3=>?_) (.inr hl);refine wpAny_mono (hb ea pins s2 _ _ _ (I3.wish _) (q ea le.un)) (fun f s3 z=>?_) fun _ _ z=>False.elim z;have back:∀ {σ':St} {H':Hp},Inv (X.held (.ref ea)).nox pins σ' H' s3->Inv X pins σ' H' s3:=fun J=>J.unwish.unheld I.ok.hd;dsimp only;cases f with
   | next =>
     obtain ⟨σ',H',J,z⟩:=z;exact jF (back J) hN hi hl fun s4 J4=>⟨_,H',J4,z⟩
   | brk =>
     obtain ⟨σ',H',J,z⟩:=z;exact jF (back J) hN hi hl fun s4 J4=>⟨_,H',J4,z⟩
   | cont =>
     obtain ⟨σ',H',J,z⟩:=z;exact jF (back J) hN hi hl fun s4 J4=>⟨_,H',J4,z⟩
   | ret u =>
     obtain ⟨v,σ',H',J,rv,z⟩:=z;exact jF (back J) hN hi hl fun s4 J4=>⟨v,_,H',J4,rv,z⟩
end
end L2
namespace Pb
open L2 PySem
theorem we {ea:Addr} {lo:Int} {n:Nat} {p:Addr} {Q:VK} {g:TG} {tc:TT} {te:TE} {σ0:St} {H0:Hp} (Pv:Nat->List V->St->Hp->Prop) (h0:Pv 0 [] σ0 H0)
   (hs:∀ (i:Nat) (ys:List V) (σ:St) (H:Hp) (N:List V->St->Hp->Prop),(∀ ys' σ' H',Pv (i+1) ys' σ' H'->N ys' σ' H')->i<n->Pv i ys σ H->g (.int (lo+i)) σ H fun σ2 H2=>tc σ2 H2 fun b H3 =>
     if b=true then te σ2 H3 fun y H4=>H4 p=some (.lst ys)/\ys.length<sizeLine/\N (ys++[y]) σ2 (upd H4 p (.lst (ys++[y]))) else N ys σ2 H3)
   (hd:∀ ys σ H,Pv n ys σ H->(∃ cls od,H ea=some (ExO ea cls od))/\Q (.ref p) H):qI (yl ea lo n) p Q g tc te σ0 H0:=by
 refine ⟨fun i m ys σ H=>m=n - i/\i<=n/\Pv i ys σ H,⟨n,by simp,Nat.zero_le _,h0⟩,?_⟩;rintro i m ys σ H ⟨rfl,hi,pv⟩;by_cases hlt:i<n
 . refine .inr ⟨hlt,fun x H' y=>?_⟩;obtain ⟨rfl,rfl⟩:=y;exact hs i ys σ _ (fun ys' σ' H'=>∃ m',m'<n - i/\(m'=n - (i+1)/\i+1<=n/\Pv (i+1) ys' σ' H')) (fun ys' σ' H' pv'=>⟨n - (i+1),by omega,rfl,hlt,pv'⟩) hlt pv
 . have e:i=n:=by omega
   subst e;exact .inl ⟨⟨Nat.le_refl _,(hd ys σ H pv).1⟩,(hd ys σ H pv).2⟩
end Pb
set_option Elab.async false
set_option linter.all false
set_option maxRecDepth 100000
set_option maxHeartbeats 4000000
namespace Pk
open PySem L2 Pb
seal L2.PSs L2.PS L2.PE L2.PT L2.PW L2.PA L2.PG L2.PGs L2.PI L2.PTs L2.PC L2.PPs L2.PO
abbrev top (i:Nat):Stmt:=Hd.top i
local macro_rules|`(tactic| walk_at "rd") => `(tactic| ((try dsimp only [tYes, D2, Ch, Ends.less, sX, wS, vf, yW, xl, Cl, DV, y7, sZ, BF, yo, BK, xL, B9, Ck, xU, Dk, CZ, yz, sV, zx, Bo, Ce, xt, tNext, uv, lB, yb, rS, gNil, AL, B8, Cc, Ds, Cj, Cd, C8, ipI, BP, yj, uc, tB, qW, tC, uo, tOp, tUn, rI0, rI, rU, rEq, rNe, ue, xJ, xP, tNil, Bk, A8, tCB, tBM, BA, DU, A9, B0, Ci, sd, xA, Co, xD, yu, kJ, yw, yy, C9, tOr, zU, yq, zZ, Cb, tIf, List.nil_append, List.append_nil, List.set_cons_zero, List.set_cons_succ, List.getElem?_cons_zero, List.getElem?_cons_succ]);(try simp only [tYes, D2, Ch, Ends.less, sX, wS, vf, yW, xl, Cl, DV, y7, sZ, BF, yo, BK, xL, B9, Ck, xU, Dk, CZ, yz, sV, zx, Bo, Ce, xt, tNext, uv, lB, yb, rS, gNil, AL, B8, Cc, Ds, Cj, Cd, C8, ipI, BP, yj, uc, tB, qW, tC, uo, tOp, tUn, rI0, rI, rU, rEq, rNe, CD, CK, Cv, CF, Cs, Ct, ue, xJ, xP, tNil, Bk, A8, tCB, tBM, BA, DU, A9, B0, Ci, sd, xA, Co, xD, yu, kJ, yw, yy, C9, tOr, zU, yq, zZ, Cb, tIf, List.nil_append, List.append_nil, List.set_cons_zero, List.set_cons_succ, List.getElem?_cons_zero, List.getElem?_cons_succ, Option.some.injEq, V.int.injEq, V.bl.injEq, V.ref.injEq, List.cons.injEq, exists_eq_left, exists_eq_left', exists_and_left, exists_const, and_true, true_and, decide_eq_true_eq, Bool.not_eq_true', decide_eq_false_iff_not, Bool.true_eq_false, Bool.false_eq_true, if_true, if_false])))
set_option genSizeOf false in
set_option genInjectivity false in
structure Txt (K:PySem.W.Frag) (mg:Str->Option Value) where
 TollError:Addr
 wI:mg "TollError"=some (.ref TollError)
 BadWeb:Addr
 fP:mg "BadWeb"=some (.ref BadWeb)
 NoPlace:Addr
 zm:mg "NoPlace"=some (.ref NoPlace)
 NoRoad:Addr
 Bd:mg "NoRoad"=some (.ref NoRoad)
 BadLaying:Addr
 vC:mg "BadLaying"=some (.ref BadLaying)
 BadWish:Addr
 yZ:mg "BadWish"=some (.ref BadWish)
 TooMany:Addr
 yR:mg "TooMany"=some (.ref TooMany)
 NoNumber:Addr
 xp:mg "NoNumber"=some (.ref NoNumber)
 NoWorst:Addr
 zG:mg "NoWorst"=some (.ref NoWorst)
 NoDeed:Addr
 BO:mg "NoDeed"=some (.ref NoDeed)
 BadStep:Addr
 zv:mg "BadStep"=some (.ref BadStep)
 BadText:Addr
 y0:mg "BadText"=some (.ref BadText)
 Web:Addr
 Ea:mg "Web"=some (.ref Web)
 wB:XTop K TollError
 qv:XErr K TollError BadWeb
 g6:Ah K BadWeb
 yB:XErr K TollError NoPlace
 A2:XErr K TollError NoRoad
 vB:XErr K TollError BadLaying
 yD:XErr K TollError BadWish
 yT:XErr K TollError TooMany
 xS:XErr K TollError NoNumber
 zr:XErr K TollError NoWorst
 zT:XErr K TollError NoDeed
 yG:XErr K TollError BadStep
 y3:XErr K TollError BadText
 ndx:[TollError,BadWeb,NoPlace,NoRoad,BadLaying,BadWish,TooMany,NoNumber,NoWorst,NoDeed,BadStep,BadText].Nodup
 range:mg "range"=none
 len:mg "len"=none
 isinstance:mg "isinstance"=none
 all:mg "all"=none
 int:mg "int"=none
 bool:mg "bool"=none
 tuple:mg "tuple"=none
 list:mg "list"=none
 min:mg "min"=none
 max:mg "max"=none
 enumerate:mg "enumerate"=none
 str:mg "str"=none
 ValueError:mg "ValueError"=none
 c_MOST_PLACES:∃ t,mg "MOST_PLACES"=some (.int 24 t)
 c_LEAST_TOLL:∃ t,mg "LEAST_TOLL"=some (.int 2 t)
 c_MOST_TOLL:∃ t,mg "MOST_TOLL"=some (.int 1000000 t)
 y9:Cls K Web
 n_many:NoAttr K Web "many"
 n_roads:NoAttr K Web "roads"
section
variable {P:Program} {w:World} {K:PySem.W.Frag} {mg:Str->Option Value} {base:Heap} {CX:CXT}
def jQ (T:Txt K mg):Sp:=fun vs H Q E=>∃ (m:Int) (t:Addr) (xs:List V),vs=[.int m,.ref t]/\SqT K H t xs/\(1<=m/\m<=24/\(xs.length:Int)=m - 1->Q .non H)/\(¬ (1<=m/\m<=24/\(xs.length:Int)=m - 1)->E (.ref T.BadWeb) none H)
abbrev aW:Stmt:=top 19
theorem qR:FnScope ["many","roads"] ["many","roads"] (af aW):=FnScope.of (by kernel_rfl)
theorem gF:NmL (af aW) "many":=.of (by kernel_rfl)
theorem kM:NmL (af aW) "roads":=.of (by kernel_rfl)
theorem eu:NmG (af aW) "MOST_PLACES":=.of (by kernel_rfl)
theorem cG:NmG (af aW) "BadWeb":=.of (by kernel_rfl)
theorem eX:NmG (af aW) "len":=.of (by kernel_rfl)
theorem rd (T:Txt K mg) (hq:bO (CXe P w)) {f:Addr} {fd:FuncData} (D:Df K mg "check_counts" aW ["many","roads"] f fd):FnOk P w K mg base (CXe P w) 1 f fd ["many","roads"] (jQ T):=by
 refine D.F.okX qR (fun vs H Q E h=>?_) (fun cdv A outer s H vs Q E hr h=>?_)
 . obtain ⟨m,t,xs,rfl,_⟩:=h
   rfl
 . obtain ⟨m,t,xs,rfl,ht,k,e⟩:=h;refine ⟨_,(am (be (rh (uD qM qM ah (pvl 0 gF) (qw eu.g T.c_MOST_PLACES (hd:=eu.d)))) (ap (gU T.g6 rfl iT cG.g T.fP (aa dI aj) (hdb:=cG.d))) aG) (ap (be (aB ud (aI bD eX.g T.len d8 (aa (pvl 1 kM) aj) (hn:=eX.n) (hdb:=eX.d)) (aq kL (pvl 0 gF) ah) (ay _)) (ap (gU T.g6 rfl iT cG.g T.fP (aa dI aj) (hdb:=cG.d))) aG))),?_⟩;rw [show L2.start ["many","roads"] [V.int m,V.ref t]=[some (V.int m),some (V.ref t)] from rfl];walk_at "rd";by_cases h1:1<=m
   . rw [if_pos h1];by_cases h2:m<=24
     . rw [if_neg (by omega)];refine ⟨xs,.inr ht,?_⟩;by_cases h3:(xs.length:Int)=m - 1
       . rw [if_neg (by omega)];exact k ⟨h1,h2,h3⟩
       . rw [if_pos (by omega)];exact ⟨by decide,e fun z=>h3 z.2.2⟩
     . rw [if_pos (by omega)];exact ⟨by decide,e fun z=>h2 z.2.1⟩
   . rw [if_neg h1];exact ⟨by decide,e fun z=>h1 z.1⟩
def qh (T:Txt K mg):Sp:=fun vs H Q _=>∃ m n:Int,vs=[.int m,.int n]/\Q (.bl (decide (0<=n) && decide (n<m))) H
abbrev cF:Stmt:=top 18
theorem wj:FnScope ["many","number"] ["many","number"] (af cF):=FnScope.of (by kernel_rfl)
theorem qA:NmL (af cF) "many":=.of (by kernel_rfl)
theorem o8:NmL (af cF) "number":=.of (by kernel_rfl)
theorem vN (T:Txt K mg) (hq:bO (CXe P w)) {f:Addr} {fd:FuncData} (D:Df K mg "is_place" cF ["many","number"] f fd):FnOk P w K mg base (CXe P w) 1 f fd ["many","number"] (qh T):=by
 refine D.F.okC wj (fun vs H Q E h=>?_) (fun cdv A outer s H vs Q E hr h=>?_)
 . obtain ⟨m,n,rfl,_⟩:=h
   rfl
 . obtain ⟨m,n,rfl,k⟩:=h;refine ⟨_,(ap (aU (B6 qM py ah (pvl 1 o8) (pvl 0 qA)))),?_⟩;rw [show L2.start ["many","number"] [V.int m,V.int n]=[some (V.int m),some (V.int n)] from rfl];walk_at "rd";by_cases c:0<=n
   . simpa [c] using k
   . simpa [c] using k
def nB (T:Txt K mg):Sp:=fun vs H Q E=>∃ (m:Int) (p:Addr) (r:Road),vs=[.int m,.ref p]/\H p=some (.tup (bN r))/\((0<=r.a/\r.a<m)/\(0<=r.b/\r.b<m)/\r.a≠r.b->Q .non H)/\(¬ ((0<=r.a/\r.a<m)/\(0<=r.b/\r.b<m)/\r.a≠r.b)->E (.ref T.BadWeb) none H)
abbrev br:Stmt:=top 20
theorem tX:FnScope ["many","road"] ["many","road"] (af br):=FnScope.of (by kernel_rfl)
theorem ig:NmL (af br) "many":=.of (by kernel_rfl)
theorem dM:NmL (af br) "road":=.of (by kernel_rfl)
theorem cD:NmG (af br) "is_place":=.of (by kernel_rfl)
theorem cX:NmG (af br) "BadWeb":=.of (by kernel_rfl)
theorem tY (T:Txt K mg) (hq:bO (CXe P w)) {f:Addr} {fd:FuncData} (D:Df K mg "check_ends" br ["many","road"] f fd) {eM:Addr} {pT:FuncData} (da:Df K mg "is_place" cF ["many","number"] eM pT) (G_is_place:FnOk P w K mg base (CXe P w) 1 eM pT ["many","number"] (qh T)):FnOk P w K mg base (CXe P w) 2 f fd ["many","road"] (nB T):=by
 refine D.F.okX tX (fun vs H Q E h=>?_) (fun cdv A outer s H vs Q E hr h=>?_)
 . obtain ⟨m,p,r,rfl,_⟩:=h
   rfl
 . obtain ⟨m,p,r,rfl,hp,k,e⟩:=h;refine ⟨_,(am (be (PW.pt (iJ (rh (ze (au G_is_place (hr.mono (by decide)) cD.g da.m da.F.kp da.b .nil mS (aa (pvl 0 ig) (aa (aA bp (pvl 1 dM) ah (fun _ _=>rfl)) aj)) (hdb:=cD.d)))) (jr (rh (ze (au G_is_place (hr.mono (by decide)) cD.g da.m da.F.kp da.b .nil mS (aa (pvl 0 ig) (aa (aA bp (pvl 1 dM) ah (fun _ _=>rfl)) aj)) (hdb:=cD.d))))))) (ap (gU T.g6 rfl iT cX.g T.fP (aa dI aj) (hdb:=cX.d))) aG) (ap (be (aB bA (aA bp (pvl 1 dM) ah (fun _ _=>rfl)) (aA bp (pvl 1 dM) ah (fun _ _=>rfl)) (ay _)) (ap (gU T.g6 rfl iT cX.g T.fP (aa dI aj) (hdb:=cX.d))) aG))),?_⟩;rw [show L2.start ["many","road"] [V.int m,V.ref p]=[some (V.int m),some (V.ref p)] from rfl];walk_at "rd";refine ixT hp rfl ⟨m,r.a,rfl,_,rfl,?_⟩;by_cases h1:0<=r.a/\r.a<m
   . rw [if_neg (by simp [h1.1,h1.2])];refine ixT hp rfl ⟨m,r.b,rfl,_,rfl,?_⟩;by_cases h2:0<=r.b/\r.b<m
     . rw [if_neg (by simp [h2.1,h2.2])];refine ixT hp rfl (ixT hp rfl ⟨rfl,?_⟩);by_cases h3:r.a=r.b
       . rw [if_pos (by rw [h3])];exact ⟨by decide,e fun z=>z.2.2 h3⟩
       . rw [if_neg (by simpa using h3)];exact k ⟨h1,h2,h3⟩
     . rw [if_pos (by
         rw [Bool.and_eq_false_iff,decide_eq_false_iff_not,decide_eq_false_iff_not];by_cases w:0<=r.b
         . exact .inr fun z=>h2 ⟨w,z⟩
         . exact .inl w)]
       exact ⟨by decide,e fun z=>h2 z.2.1⟩
   . rw [if_pos (by
       rw [Bool.and_eq_false_iff,decide_eq_false_iff_not,decide_eq_false_iff_not];by_cases w:0<=r.a
       . exact .inr fun z=>h1 ⟨w,z⟩
       . exact .inl w)]
     exact ⟨by decide,e fun z=>h1 z.1⟩
def nu (T:Txt K mg):Sp:=fun vs H Q _=>∃ (t:Addr) (ps:List Addr) (rs:List Road) (n:Int),vs=[.ref t,.int n]/\SqT K H t (ps.map V.ref)/\RoadsAt H ps rs/\rs.length<=1000 /\
 ∀ l H',H l=none->Same H H'->H' l=some (.lst ((cJ rs n).map V.int))->Q (.ref l) H'
abbrev bq:Stmt:=top 23
theorem iA:FnScope ["roads","place","ends","road"] ["roads","place"] (af bq):=FnScope.of (by kernel_rfl)
theorem nL:NmL (af bq) "roads":=.of (by kernel_rfl)
theorem gO:NmL (af bq) "place":=.of (by kernel_rfl)
theorem dJ:NmL (af bq) "ends":=.of (by kernel_rfl)
theorem cK:NmL (af bq) "road":=.of (by kernel_rfl)
theorem tM (T:Txt K mg) (hq:bO (CXe P w)) {f:Addr} {fd:FuncData} (D:Df K mg "other_ends" bq ["roads","place"] f fd):FnOk P w K mg base (CXe P w) 1 f fd ["roads","place"] (nu T):=by
 refine D.F.okC iA (fun vs H Q E h=>?_) (fun cdv A outer s H vs Q E hr h=>?_)
 . obtain ⟨t,ps,rs,n,rfl,_⟩:=h
   rfl
 . obtain ⟨t,ps,rs,n,rfl,ht,hp,hl,k⟩:=h;refine ⟨_,(am (aw (i:=2) iA.nd rfl (Or.inl dJ.l) (a9 aj)) (am (fh PassesOwn.never rfl (qQ (pvl 0 nL)) (aM (i:=3) iA.nd rfl (Or.inl cK.l)) (am (be (aB bA (aA bp (pvl 3 cK) ah (fun _ _=>rfl)) (pvl 1 gO) (ay _)) (ap (eU (pC PySem.F.plainAttrs_list PySem.F.slot_list_append PySem.F.type_list_append fm (pvl 2 dJ) (aa (aA bp (pvl 3 cK) ah (fun _ _=>rfl)) aj)))) aG) (ap (be (aB bA (aA bp (pvl 3 cK) ah (fun _ _=>rfl)) (pvl 1 gO) (ay _)) (ap (eU (pC PySem.F.plainAttrs_list PySem.F.slot_list_append PySem.F.type_list_append fm (pvl 2 dJ) (aa (aA bp (pvl 3 cK) ah (fun _ _=>rfl)) aj)))) aG)))) (ap (aU (pvl 2 dJ))))),?_⟩;rw [show L2.start ["roads","place","ends","road"] [V.ref t,V.int n]=[some (V.ref t),some (V.int n),none,none] from rfl];walk_at "rd";refine ⟨by decide,fun l hn=>?_⟩;have hlen:ps.length=rs.length:=Paired.length hp;refine ⟨⟨_,Same.tup (Same.new _ hn) ht⟩,wZ (xs:=ps.map V.ref) (fun i σ H2=>H2=upd H l (.lst ((cJ (rs.take i) n).map V.int))/\∃ v,σ=[some (.ref t),some (.int n),some (.ref l),v]) ⟨rfl,_,rfl⟩ (fun i σ H2 _ z=>by rw [z.1];exact Same.tup (Same.new _ hn) ht) ?_ ?_⟩
   . rintro i x σ H2 hi ⟨rfl,v,rfl⟩;obtain ⟨p,r,rfl,h1,h2,h3⟩:=hp.get hi;have np:p≠l:=az h3 hn;have hil:i<rs.length:=(List.getElem?_eq_some_iff.mp h2).1;have et:rs.take (i+1)=rs.take i++[r]:=(by rw [List.take_succ,h2];rfl);have hb:(cJ (rs.take i) n).length<=2000:=Nat.le_trans (Bg _ _) (by rw [List.length_take];omega);have hx:∀ o,upd H l o p=some (.tup (bN r)):=fun o=>by rw [ao np];exact h3
     walk_at "rd";refine ixT (hx _) rfl ?_;walk_at "rd";have fin:∀ (ys:List Int),(cJ (rs.take i) n++ys)=cJ (rs.take (i+1)) n->upd H l (.lst ((cJ (rs.take i) n).map V.int++ys.map V.int))=upd H l (.lst ((cJ (rs.take (i+1)) n).map V.int)):=fun ys e=>by
       rw [<- List.map_append,e]
     have e1:pp n r=(if r.a=n then [r.b] else [])++(if r.b=n then [r.a] else []):=rfl;by_cases ca:r.a=n
     . rw [if_pos ca];refine ⟨tyL ag,ixT (hx _) rfl (vb ag (eG (by rw [List.length_map];omega)) ?_)⟩;rw [cw];refine ixT (hx _) rfl ?_;walk_at "rd";by_cases cb:r.b=n
       . rw [if_pos cb];refine ⟨tyL ag,ixT (hx _) rfl (vb ag (eG (by rw [List.length_append,List.length_map];simp;omega)) ?_)⟩;rw [cw,List.append_assoc];exact ⟨fin [r.b,r.a] (by rw [et,jK,e1,if_pos ca,if_pos cb];rfl),_,rfl⟩
       . rw [if_neg cb];exact ⟨fin [r.b] (by rw [et,jK,e1,if_pos ca,if_neg cb];rfl),_,rfl⟩
     . rw [if_neg ca];refine ixT (hx _) rfl ?_;walk_at "rd";by_cases cb:r.b=n
       . rw [if_pos cb];refine ⟨tyL ag,ixT (hx _) rfl (vb ag (eG (by rw [List.length_map];omega)) ?_)⟩;rw [cw];exact ⟨fin [r.a] (by rw [et,jK,e1,if_neg ca,if_pos cb];rfl),_,rfl⟩
       . rw [if_neg cb];have:=fin [] (by rw [et,jK,e1,if_neg ca,if_neg cb];rfl);rw [List.map_nil,List.append_nil] at this;exact ⟨this,_,rfl⟩
   . rintro σ H2 ⟨rfl,v,rfl⟩;rw [List.length_map,hlen,List.take_length];exact ⟨_,rfl,k l _ hn (Same.new _ hn) ag⟩
def bI (ks:List Int):List (Key × V):=ks.map fun k=>((Sum.inl k:Key),V.bl true)
theorem ij (ks:List Int):(bI ks).length=ks.length:=by unfold bI;rw [List.length_map]
theorem m7 (ks:List Int) (e:Int):hJ (bI ks) (Sum.inl e:Key)=if e∈ks then some (V.bl true) else none:=by
 unfold bI
 induction ks with
 | nil=>rfl
 | cons k ks ih =>
   rw [List.map_cons];by_cases c:k=e
   . rw [mF (by rw [c]),if_pos (by rw [c];exact List.mem_cons_self)]
   . rw [l6 (fun z=>c (Sum.inl.inj z)),ih];by_cases d:e∈ks
     . rw [if_pos d,if_pos (List.mem_cons_of_mem _ d)]
     . rw [if_neg d,if_neg (fun z=>by rcases List.mem_cons.mp z with z|z;exact c z.symm;exact d z)]
theorem uS {ks:List Int} {e:Int} (h:e ∉ ks):dR (bI ks) (Sum.inl e:Key) (V.bl true)=bI (ks++[e]):=by
 rw [B5 _ (by rw [m7,if_neg h])];unfold bI;rw [List.map_append]
 rfl
def jE (T:Txt K mg):Sp:=fun vs H Q E=>∃ (m:Int) (t:Addr) (ps:List Addr) (rs:List Road),vs=[.int m,.ref t]/\SqT K H t (ps.map V.ref)/\RoadsAt H ps rs/\1<=m/\m<=24/\(rs.length:Int)=m - 1/\(∀ r∈rs,RoadOk m r)/\(jx m rs->∀ H',Same H H'->Q .non H')/\(¬ jx m rs->∀ H',Same H H'->E (.ref T.BadWeb) none H')
abbrev aF:Stmt:=top 22
theorem dG:FnScope ["many","roads","reached","waiting","place","end"] ["many","roads"] (af aF):=FnScope.of (by kernel_rfl)
theorem mJ:NmL (af aF) "many":=.of (by kernel_rfl)
theorem kG:NmL (af aF) "roads":=.of (by kernel_rfl)
theorem cg:NmL (af aF) "reached":=.of (by kernel_rfl)
theorem ci:NmL (af aF) "waiting":=.of (by kernel_rfl)
theorem gm:NmL (af aF) "place":=.of (by kernel_rfl)
theorem dy:NmL (af aF) "end":=.of (by kernel_rfl)
theorem eP:NmG (af aF) "other_ends":=.of (by kernel_rfl)
theorem eZ:NmG (af aF) "len":=.of (by kernel_rfl)
theorem fE:NmG (af aF) "BadWeb":=.of (by kernel_rfl)
theorem rA (T:Txt K mg) (hq:bO (CXe P w)) {f:Addr} {fd:FuncData} (D:Df K mg "check_joined" aF ["many","roads"] f fd) {dq:Addr} {nF:FuncData} (ee:Df K mg "other_ends" bq ["roads","place"] dq nF) (G_other_ends:FnOk P w K mg base (CXe P w) 1 dq nF ["roads","place"] (nu T)):FnOk P w K mg base (CXe P w) 2 f fd ["many","roads"] (jE T):=by
 refine D.F.okX dG (fun vs H Q E h=>?_) (fun cdv A outer s H vs Q E hr h=>?_)
 . obtain ⟨m,t,ps,rs,rfl,_⟩:=h
   rfl
 . obtain ⟨m,t,ps,rs,rfl,ht,hp,m1,m24,glen,gok,k,ke⟩:=h;have hu:=Cf hr;refine ⟨_,(am (aw (i:=2) dG.nd rfl (Or.inl cg.l) (xn (uz ah iL xb) rfl rfl (List.cons_ne_nil _ _) (by decide))) (am (aw (i:=3) dG.nd rfl (Or.inl ci.l) (a9 (aa ah aj))) (am (Ak PassesOwn.leaving (ur (pvl 3 ci) (fun _=>rfl)) (am (aw (i:=4) dG.nd rfl (Or.inl gm.l) (CT PySem.F.plainAttrs_list PySem.F.slot_list_pop PySem.F.type_list_pop D0 (pvl 3 ci))) (ap (fh PassesOwn.leaving rfl (kU (au G_other_ends (hr.mono (by decide)) eP.g ee.m ee.F.kp ee.b .nil mS (aa (pvl 1 kG) (aa (pvl 4 gm) aj)) (hdb:=eP.d))) (aM (i:=5) dG.nd rfl (Or.inl dy.l)) (ap (be (ui (yY hu (pvl 5 dy) (pvl 2 cg))) (am (sF hu (pvl 2 cg) (pvl 5 dy) iL rfl) (ap (eU (pC PySem.F.plainAttrs_list PySem.F.slot_list_append PySem.F.type_list_append fm (pvl 3 ci) (aa (pvl 5 dy) aj))))) aG)))))) (ap (be (aB ud (aI tj eZ.g T.len d8 (aa (pvl 2 cg) aj) (hn:=eZ.n) (hdb:=eZ.d)) (pvl 0 mJ) (ay _)) (ap (gU T.g6 rfl iT fE.g T.fP (aa dI aj) (hdb:=fE.d))) aG))))),?_⟩;rw [show L2.start ["many","roads","reached","waiting","place","end"] [V.int m,V.ref t]=[some (V.int m),some (V.ref t),none,none,none,none] from rfl];walk_at "rd";intro d hd;refine ⟨ag,[(Sum.inl 0,.bl true)],rfl,by decide,?_⟩;rw [cw];refine ⟨by decide,fun w0 hw=>?_⟩;have ed:jA [] [((Sum.inl 0:Key),V.bl true)]=bI [0]:=rfl;rw [ed];have ndw:w0≠d:=fun z=>by rw [z,ag] at hw;cases hw
   have hw0:H w0=none:=by rw [ao ndw] at hw;exact hw
   refine Cy (fun n σ H2=>∃ (ks ws:List Int) (v4 v5:Option V),n=2*(m.toNat - ks.length)+ws.length/\σ=[some (.int m),some (.ref t),some (.ref d),some (.ref w0),v4,v5]/\Same H H2/\H2 d=some (.dK (bI ks))/\H2 w0=some (.lst (ws.map V.int))/\JInv m rs ks ws/\Reach rs ks) _ ⟨[0],[0],none,none,rfl,rfl,?_,?_,ag,JInv.start m1,Reach.start⟩ ?_
   . exact Same.trans (Same.new _ hd) (Same.new _ hw)
   . rw [ao ndw.symm,ag]
   rintro n σ H2 NW hN hN2 ⟨ks,ws,v4,v5,rfl,rfl,sm,h1,h2,J,Re⟩;have kl:=dF (by omega) J.nd J.rng;refine ⟨_,rfl,!(ws.map V.int).isEmpty,.inl ⟨_,SqL.of h2,rfl⟩,?_⟩;rcases List.eq_nil_or_concat ws with rfl|⟨ws',p,rfl⟩
   . -- nothing waits: all places have been reached
     refine En ?_;walk_at "rd";refine ⟨bI ks,h1,?_⟩;rw [ij];by_cases jd:jx m rs
     . have full:=J.all m1 jd;rw [if_neg (by omega)];exact k jd _ sm
     . rw [if_pos (fun z=>jd (Re.joined (by omega) J.nd J.rng z))];exact ⟨by decide,ke jd _ sm⟩
   . rw [List.concat_eq_append] at J h2 hN hN2 ⊢;have e1:(!(List.map V.int (ws'++[p])).isEmpty)=true:=(by simp);rw [e1];refine Ex ⟨NW,hN2,?_⟩;walk_at "rd";rw [List.map_append,List.map_cons,List.map_nil] at h2;refine ⟨tyL h2,Et h2 ?_⟩;have ndw':d≠w0:=ndw.symm;have sm2:Same H (upd H2 w0 (.lst (ws'.map V.int))):=fun b o e=>by rw [ao (az e hw0)];exact sm b o e
     refine ⟨t,ps,rs,p,rfl,Same.tup sm2 ht,RoadsAt.same sm2 hp,by omega,fun l H3 hn s3 hl=>?_⟩;have nlw:w0≠l:=az (o:=.lst (ws'.map V.int)) ag hn;have nld:d≠l:=az (o:=.dK (bI ks)) (by rw [ao ndw'];exact h1) hn;have hl0:H l=none:=sm2.free hn;refine ⟨l,rfl,⟨_,SqL.of hl⟩,jO (K:=K) (xs:=(cJ rs p).map V.int) (fun i σ H4=>∃ (v5:Option V),σ=[some (.int m),some (.ref t),some (.ref d),some (.ref w0),some (.int p),v5]/\Same H H4/\H4 l=some (.lst ((cJ rs p).map V.int)) /\
       ∃ ks4 ws4:List Int,H4 d=some (.dK (bI ks4))/\H4 w0=some (.lst (ws4.map V.int))/\JMid m rs p ((cJ rs p).take i) ks4 ws4 ks ws'.length/\Reach rs ks4) ?_ (fun i σ H4 _ z=>by obtain ⟨_,_,_,z,_⟩:=z;exact SqL.of z) ?_ ?_⟩
     . refine ⟨_,rfl,sm2.trans s3,hl,ks,ws',?_,?_,?_⟩
       . exact s3 _ _ (by rw [ao ndw'];exact h1)
       . exact s3 _ _ ag
       . rw [List.take_zero];exact ⟨JMid.start J,Re⟩
     . rintro i x σ H4 NI hI hi ⟨v5,rfl,s4,hl4,ks4,ws4,hd4,hw4,M,R4⟩;rw [List.getElem?_map] at hi;obtain ⟨e,he,rfl⟩:∃ e,(cJ rs p)[i]?=some e/\V.int e=x:=by
         cases q:(cJ rs p)[i]? with
         | none=>rw [q] at hi;cases hi
         | some e=>rw [q] at hi;exact ⟨e,rfl,Option.some.inj hi⟩
       have er:=Bb gok (List.mem_of_getElem? he);have et:(cJ rs p).take (i+1)=(cJ rs p).take i++[e]:=(by rw [List.take_succ,he];rfl);have st:=M.step er.1 er.2;have k4:=dF (by omega) M.nd M.rng;have mu4:=M.mu;walk_at "rd";refine ⟨_,DGet.k (k:=Sum.inl e) hd4,?_⟩;rw [m7];by_cases c:e∈ks4
       . rw [if_pos c];rw [if_neg (by simp)];refine hI _ _ ⟨_,rfl,s4,hl4,ks4,ws4,hd4,hw4,?_,R4⟩;rw [et];unfold q8 at st;rw [if_pos c] at st;exact st
       . rw [if_neg c];rw [if_pos (by simp)];refine ⟨_,DPut.k (k:=Sum.inl e) hd4 (eG (by rw [ij];omega)),?_⟩;rw [uS c];have hw5:upd H4 d (.dK (bI (ks4++[e]))) w0=some (.lst (ws4.map V.int)):=(by rw [ao ndw];exact hw4);refine ⟨tyL hw5,vb hw5 (eG (by rw [List.length_map];have:=M.wl;omega)) ?_⟩;have hmid:=M.mu;refine hI _ _ ⟨_,rfl,fun b o z=>?_,?_,ks4++[e],ws4++[e],?_,?_,?_,R4.add M.pin (List.mem_of_getElem? he)⟩
         . rw [ao (az z hw0),ao (az z hd)];exact s4 b o z
         . rw [ao nlw.symm,ao nld.symm];exact hl4
         . rw [ao ndw',ag]
         . rw [ag,List.map_append];rfl
         . rw [et];unfold q8 at st;rw [if_neg c] at st;exact st
     . rintro σ H4 ⟨v5,rfl,s4,hl4,ks4,ws4,hd4,hw4,M,R4⟩;rw [List.length_map,List.take_length] at M;have k4:=dF (by omega) M.nd M.rng;have mu4:=M.mu;have up4:=M.up;refine hN _ _ _ ?_ ⟨ks4,ws4,some (.int p),v5,rfl,rfl,s4,hd4,hw4,M.done,R4⟩;rw [List.length_append];simp only [List.length_cons,List.length_nil];omega
def kH (T:Txt K mg):Sp:=fun vs H Q E=>∃ (p:Addr) (r:Road),vs=[.ref p]/\H p=some (.tup (bN r))/\((2<=r.t/\r.t<=1000000)/\(2<=r.u/\r.u<=1000000)->∀ H',Same H H'->Q .non H')/\(¬ ((2<=r.t/\r.t<=1000000)/\(2<=r.u/\r.u<=1000000))->∀ H',Same H H'->E (.ref T.BadWeb) none H')
abbrev a7:Stmt:=top 21
theorem kF:FnScope ["road","number"] ["road"] (af a7):=FnScope.of (by kernel_rfl)
theorem gR:NmL (af a7) "road":=.of (by kernel_rfl)
theorem gh:NmL (af a7) "number":=.of (by kernel_rfl)
theorem e7:NmG (af a7) "LEAST_TOLL":=.of (by kernel_rfl)
theorem fq:NmG (af a7) "MOST_TOLL":=.of (by kernel_rfl)
theorem gg:NmG (af a7) "BadWeb":=.of (by kernel_rfl)
theorem sI (T:Txt K mg) (hq:bO (CXe P w)) {f:Addr} {fd:FuncData} (D:Df K mg "check_tolls" a7 ["road"] f fd):FnOk P w K mg base (CXe P w) 1 f fd ["road"] (kH T):=by
 refine D.F.okX kF (fun vs H Q E h=>?_) (fun cdv A outer s H vs Q E hr h=>?_)
 . obtain ⟨p,r,rfl,_⟩:=h
   rfl
 . obtain ⟨p,r,rfl,hp,k,e⟩:=h;refine ⟨_,(ap (fh PassesOwn.leaving rfl (qQ (ck (aa (aA bp (pvl 0 gR) ah (fun _ _=>rfl)) (aa (aA bp (pvl 0 gR) ah (fun _ _=>rfl)) aj)))) (aM (i:=1) kF.nd rfl (Or.inl gh.l)) (ap (be (rh (uD qM qM (qw e7.g T.c_LEAST_TOLL (hd:=e7.d)) (pvl 1 gh) (qw fq.g T.c_MOST_TOLL (hd:=fq.d)))) (ap (gU T.g6 rfl iT gg.g T.fP (aa dI aj) (hdb:=gg.d))) aG)))),?_⟩;rw [show L2.start ["road","number"] [V.ref p]=[some (V.ref p),none] from rfl];walk_at "rd";refine ixT hp rfl (ixT hp rfl ⟨aD (by simp),fun q hn=>?_⟩);have s1:=Same.new (.tup [V.int r.t,V.int r.u]) hn;have e1:upd H q (.tup [V.int r.t,V.int r.u]) q=some (.tup [V.int r.t,V.int r.u]):=ag;generalize upd H q (.tup [V.int r.t,V.int r.u])=H1 at s1 e1 ⊢;refine ⟨⟨_,SqT.of e1⟩,u7 (K:=K) (xs:=[V.int r.t,V.int r.u]) (fun i σ H2=>H2=H1/\(1<=i->2<=r.t/\r.t<=1000000)/\(2<=i->2<=r.u/\r.u<=1000000)/\∃ v,σ=[some (V.ref p),v]) ⟨rfl,fun z=>absurd z (by decide),fun z=>absurd z (by decide),_,rfl⟩ (fun i σ H2 _ z=>by rw [z.1];exact SqT.of e1) ?_ ?_⟩
   . rintro i x σ H2 N hN hi ⟨rfl,h1,h2,v,rfl⟩
     match i,hi with
     | 0,hi =>
       cases hi;walk_at "rd";by_cases n0:2<=r.t
       . rw [if_pos n0];by_cases n1:r.t<=1000000
         . rw [if_neg (by omega)];exact hN _ _ ⟨rfl,fun _=>⟨n0,n1⟩,fun z=>absurd z (by decide),_,rfl⟩
         . rw [if_pos (by omega)];exact ⟨by decide,e (fun z=>n1 z.1.2) _ s1⟩
       . rw [if_neg n0];exact ⟨by decide,e (fun z=>n0 z.1.1) _ s1⟩
     | 1,hi =>
       cases hi;walk_at "rd";by_cases n0:2<=r.u
       . rw [if_pos n0];by_cases n1:r.u<=1000000
         . rw [if_neg (by omega)];exact hN _ _ ⟨rfl,fun _=>h1 (by decide),fun _=>⟨n0,n1⟩,_,rfl⟩
         . rw [if_pos (by omega)];exact ⟨by decide,e (fun z=>n1 z.2.2) _ s1⟩
       . rw [if_neg n0];exact ⟨by decide,e (fun z=>n0 z.2.1) _ s1⟩
     | i+2,hi=>cases hi
   . rintro σ H2 ⟨rfl,h1,h2,v,rfl⟩;exact k ⟨h1 (by show 1<=2;decide),h2 (by show 2<=2;decide)⟩ _ s1
/-- the attributes of a web -/
def rT (m:Int) (t:Addr):List (Str × V):=eY "roads" (.ref t) (eY "many" (.int m) [])
theorem Ei:¬ (("many":Str)="roads"):=by decide +kernel
theorem Ed (m:Int) (t:Addr):(rT m t).lookup ("many":Str)=some (.int m):=by
 unfold rT;rw [fG,if_neg Ei,fG,if_pos rfl]
theorem D7 (m:Int) (t:Addr):(rT m t).lookup ("roads":Str)=some (.ref t):=by
 unfold rT;rw [fG,if_pos rfl]
/-- a web of m places and the roads rs stands at p,its tuple at t,the roads' tuples at ps -/
structure WebAt (C:Addr) (H:Hp) (p:Addr) (m:Int) (t:Addr) (ps:List Addr) (rs:List Road):Prop where
 ob:∃ dx,H p=some (.ins C dx (rT m t))
 tu:H t=some (.tup (ps.map V.ref))
 ro:RoadsAt H ps rs
 go:Good m rs
theorem WebAt.same {C:Addr} {H H':Hp} {p:Addr} {m:Int} {t:Addr} {ps:List Addr} {rs:List Road} (e:Same H H') (h:WebAt C H p m t ps rs):WebAt C H' p m t ps rs :=
 ⟨let ⟨dx,q⟩:=h.ob;⟨dx,e _ _ q⟩,e _ _ h.tu,RoadsAt.same e h.ro,h.go⟩
def jI (T:Txt K mg):Sp:=fun vs H Q E=>∃ (p dx:Addr) (m:Int) (c:Bool) (a:Addr) (ps:List Addr) (rs:List Road),vs=[.ref p,.int m,.ref a]/\H p=some (.ins T.Web dx [])/\SqX K c H a (ps.map V.ref)/\RoadsAt H ps rs/\rs.length<=1000 /\
 (Good m rs->∀ t H',H t=none->WebAt T.Web H' p m t ps rs->(∀ b o,H b=some o->b≠p->H' b=some o)->Q .non H')/\(¬ Good m rs->∀ H',Same H H'->E (.ref T.BadWeb) none H')
abbrev aE:Stmt:=CB (top 17) 0
theorem gD:FnScope ["self","many","roads","kept","road"] ["self","many","roads"] (af aE):=FnScope.of (by kernel_rfl)
theorem gH:NmL (af aE) "self":=.of (by kernel_rfl)
theorem cW:NmL (af aE) "many":=.of (by kernel_rfl)
theorem kD:NmL (af aE) "roads":=.of (by kernel_rfl)
theorem bU:NmL (af aE) "kept":=.of (by kernel_rfl)
theorem eC:NmL (af aE) "road":=.of (by kernel_rfl)
theorem eh:NmG (af aE) "tuple":=.of (by kernel_rfl)
theorem eg:NmG (af aE) "check_counts":=.of (by kernel_rfl)
theorem eN:NmG (af aE) "check_ends":=.of (by kernel_rfl)
theorem eA:NmG (af aE) "check_tolls":=.of (by kernel_rfl)
theorem ef:NmG (af aE) "check_joined":=.of (by kernel_rfl)
theorem qO (T:Txt K mg) (hq:bO (CXe P w)) {f:Addr} {fd:FuncData} (F:Fun K "__init__" "Web.__init__" aE f fd) {cz:Addr} {jN:FuncData} (dj:Df K mg "check_counts" aW ["many","roads"] cz jN) (G_check_counts:FnOk P w K mg base (CXe P w) 1 cz jN ["many","roads"] (jQ T)) {dv:Addr} {ny:FuncData} (d9:Df K mg "check_ends" br ["many","road"] dv ny) (G_check_ends:FnOk P w K mg base (CXe P w) 2 dv ny ["many","road"] (nB T)) {cm:Addr} {jJ:FuncData} (dm:Df K mg "check_joined" aF ["many","roads"] cm jJ) (G_check_joined:FnOk P w K mg base (CXe P w) 2 cm jJ ["many","roads"] (jE T)) {cS:Addr} {kP:FuncData} (dC:Df K mg "check_tolls" a7 ["road"] cS kP) (G_check_tolls:FnOk P w K mg base (CXe P w) 1 cS kP ["road"] (kH T)):FnOk P w K mg base (CXe P w) 3 f fd ["self","many","roads"] (jI T):=by
 refine F.okX gD (fun vs H Q E h=>?_) (fun cdv A outer s H vs Q E hr h=>?_)
 . obtain ⟨p,dx,m,c,a,ps,rs,rfl,_⟩:=h
   rfl
 . obtain ⟨p,dx,m,c,a,ps,rs,rfl,hp,ha,hro,rl,k,ke⟩:=h;refine ⟨_,(am (aw (i:=3) gD.nd rfl (Or.inl bU.l) (gf nn eh.g T.tuple uj (aa (Cq rfl (qC (Nc:=["road"]) 1 (by decide +kernel) (by decide +kernel) rfl (by decide +kernel) rfl) (DG c (pvl 2 kD)) (fun _ _ _ _=>(aM (i:=0) (show (["road"]:List Str).Nodup from by decide +kernel) rfl (Or.inl rfl))) (fun _ _ _ _=>sJ) (fun _ _ _ _=>(gf (sy K rfl) (by rfl) T.tuple uj (aa (pv 0) aj)))) aj) (hn:=eh.n) (hdb:=eh.d))) (am (eU (au G_check_counts (hr.mono (by decide)) eg.g dj.m dj.F.kp dj.b .nil mS (aa (pvl 1 cW) (aa (pvl 3 bU) aj)) (hdb:=eg.d))) (am (fh PassesOwn.leaving rfl (qQ (pvl 3 bU)) (aM (i:=4) gD.nd rfl (Or.inl eC.l)) (am (eU (au G_check_ends (hr.mono (by decide)) eN.g d9.m d9.F.kp d9.b .nil mS (aa (pvl 1 cW) (aa (pvl 4 eC) aj)) (hdb:=eN.d))) (ap (eU (au G_check_tolls (hr.mono (by decide)) eA.g dC.m dC.F.kp dC.b .nil mS (aa (pvl 4 eC) aj) (hdb:=eA.d)))))) (am (eU (au G_check_joined (hr.mono (by decide)) ef.g dm.m dm.F.kp dm.b .nil mS (aa (pvl 1 cW) (aa (pvl 3 bU) aj)) (hdb:=ef.d))) (am (yP (pvl 0 gH) (pvl 1 cW) rfl) (ap (yP (pvl 0 gH) (pvl 3 bU) rfl))))))),?_⟩;rw [show L2.start ["self","many","roads","kept","road"] [V.ref p,V.int m,V.ref a]=[some (V.ref p),some (V.int m),some (V.ref a),none,none] from rfl];walk_at "rd";refine ⟨⟨_,ha⟩,fun l hl=>?_⟩;have hlen:ps.length=rs.length:=Paired.length hro;have hl1:Same H (upd H l (.lst [])):=Same.new _ hl;refine B2 (K:=K) (xs:=ps.map V.ref) (fun i ys σ H2=>H2=upd H l (.lst ((ps.take i).map V.ref))/\ys=(ps.take i).map V.ref/\∃ v,σ=[v]) ⟨rfl,rfl,_,rfl⟩ (fun i ys σ H2 _ ⟨z,_⟩=>by rw [z];exact Same.sqX (Same.new _ hl) ha) ?_ ?_
   . rintro i x ys σ H2 N hN hi ⟨rfl,rfl,v,rfl⟩;obtain ⟨q,r,rfl,h1,h2,h3⟩:=hro.get hi;have nq:q≠l:=az h3 hl;have hil:i<ps.length:=(List.getElem?_eq_some_iff.mp h1).1;have et:ps.take (i+1)=ps.take i++[q]:=(by rw [List.take_succ,h1];rfl);walk_at "rd";refine ⟨bN r,.inr ⟨SqT.of (by rw [ao nq];exact h3),ag,eG (by rw [List.length_map,List.length_take];omega),hN _ _ _ ⟨?_,?_,_,rfl⟩⟩⟩
     . rw [cw,et,List.map_append];rfl
     . rw [et,List.map_append];rfl
   . rintro ys σ H2 ⟨rfl,rfl,v,rfl⟩;rw [List.length_map,List.take_length];refine ⟨l,rfl,ps.map V.ref,.inl ⟨SqL.of ag,fun t ht=>?_⟩⟩;have s1:Same H (upd H l (.lst (ps.map V.ref))):=Same.new _ hl;have s2:Same (upd H l (.lst (ps.map V.ref))) (upd (upd H l (.lst (ps.map V.ref))) t (.tup (ps.map V.ref))):=Same.new _ ht;have ht0:H t=none:=s1.free ht;have ht1:∀ {H':Hp},Same (upd (upd H l (.lst (ps.map V.ref))) t (.tup (ps.map V.ref))) H'->H' t=some (.tup (ps.map V.ref)):=fun e=>e _ _ ag;refine ⟨m,t,ps.map V.ref,rfl,SqT.of ag,fun cnt=>⟨⟨_,SqT.of ag⟩,?_⟩,fun cnt=>ke (fun g=>cnt ⟨g.m1,g.m24,by rw [List.length_map,hlen];exact g.len⟩) _ (s1.trans s2)⟩;rw [List.length_map,hlen] at cnt;refine u7 (K:=K) (xs:=ps.map V.ref) (fun i σ H3=>Same (upd (upd H l (.lst (ps.map V.ref))) t (.tup (ps.map V.ref))) H3/\(∀ j r,j<i->rs[j]?=some r->RoadOk m r)/\∃ v,σ=[some (.ref p),some (.int m),some (.ref a),some (.ref t),v]) ⟨Same.refl _,fun j r h=>absurd h (Nat.not_lt_zero _),_,rfl⟩ (fun i σ H3 _ ⟨z,_⟩=>SqT.of (ht1 z)) ?_ ?_
     . rintro i x σ H3 N hN hi ⟨s3,oks,v,rfl⟩;have s03:=s1.trans (s2.trans s3);obtain ⟨q,r,rfl,h1,h2,h3⟩:=hro.get hi;have rm:=List.mem_of_getElem? h2;walk_at "rd";refine ⟨m,q,r,rfl,s03 _ _ h3,fun ok1=>?_,fun n=>ke (fun g=>n (qy.mp (g.ok r rm)).1) _ s03⟩;refine ⟨q,r,rfl,s03 _ _ h3,fun ok2 H4 s4=>hN _ _ ⟨s3.trans s4,fun j x hj hx=>?_,_,rfl⟩,fun n H4 s4=>ke (fun g=>n (qy.mp (g.ok r rm)).2) _ (s03.trans s4)⟩;by_cases z:j=i
       . subst z;rw [h2] at hx;cases hx;exact qy.mpr ⟨ok1,ok2⟩
       . exact oks j x (by omega) hx
     . rintro σ H3 ⟨s3,oks,v,rfl⟩;have s03:=s1.trans (s2.trans s3);rw [List.length_map,hlen] at oks;have ok:∀ r∈rs,RoadOk m r:=fun r hr=>by
         obtain ⟨j,hj⟩:=List.getElem?_of_mem hr;exact oks j r (List.getElem?_eq_some_iff.mp hj).1 hj
       walk_at "rd";refine ⟨m,t,ps,rs,rfl,SqT.of (ht1 s3),RoadsAt.same s03 hro,cnt.1,cnt.2.1,cnt.2.2,ok,fun jd H4 s4=>?_,fun n H4 s4=>ke (fun g=>n g.jn) _ (s03.trans s4)⟩;have g:Good m rs:=⟨cnt.1,cnt.2.1,cnt.2.2,ok,jd⟩;have s04:=s03.trans s4;have ntp:t≠p:=fun z=>by rw [z,hp] at ht0;cases ht0
       refine ⟨T.Web,dx,[],s04 _ _ hp,T.y9,T.n_many,by decide,?_⟩;refine ⟨T.Web,dx,_,ag,T.y9,T.n_roads,by show 1<1000;decide,?_⟩;rw [cw];refine k g t _ ht0 ⟨⟨dx,ag⟩,?_,?_,g⟩ fun b o hb nb=>?_
       . rw [ao ntp];exact ht1 (s3.trans s4)
       . refine Paired.imp' (fun q r hq=>?_) hro;rw [ao (pz hq hp (by intro z;cases z))];exact s04 _ _ hq
       . rw [ao nb];exact s04 _ _ hb
theorem sS (ks:List Int) (e:Int):dR (bI ks) (Sum.inl e:Key) (V.bl true)=bI (ff ks e):=by
 unfold ff;by_cases c:e∈ks
 . rw [if_pos c];unfold dR;rw [if_pos (by
     rw [List.any_eq_true];exact ⟨_,List.mem_map.mpr ⟨e,c,rfl⟩,decide_eq_true rfl⟩)]
   unfold bI;rw [List.map_map];refine List.map_congr_left fun k _=>?_;show (if (Sum.inl k:Key)=Sum.inl e then ((Sum.inl k:Key),V.bl true) else (Sum.inl k,V.bl true))=_;exact ite_self _
 . rw [if_neg c];exact uS c
def qi (T:Txt K mg):Sp:=fun vs H Q _=>∃ (l:Addr) (m:Int) (ps:List Addr) (rs:List Road),vs=[.int m,.ref l]/\H l=some (.lst (ps.map V.ref))/\RoadsAt H ps rs/\rs.length<=1000/\(Good m rs->∀ H',Same H H'->Q (.bl true) H')/\(¬ Good m rs->∀ H',Same H H'->Q (.bl false) H')
abbrev aO:Stmt:=top 33
theorem bM:FnScope ["many","roads","one","other","there","back","met","turn"] ["many","roads"] (af aO):=FnScope.of (by kernel_rfl)
theorem cq:NmL (af aO) "many":=.of (by kernel_rfl)
theorem fC:NmL (af aO) "roads":=.of (by kernel_rfl)
theorem b6:NmL (af aO) "one":=.of (by kernel_rfl)
theorem bH:NmL (af aO) "other":=.of (by kernel_rfl)
theorem dZ:NmL (af aO) "there":=.of (by kernel_rfl)
theorem eK:NmL (af aO) "back":=.of (by kernel_rfl)
theorem cP:NmL (af aO) "met":=.of (by kernel_rfl)
theorem qE:NmL (af aO) "turn":=.of (by kernel_rfl)
theorem cN:NmG (af aO) "len":=.of (by kernel_rfl)
theorem cR:NmG (af aO) "min":=.of (by kernel_rfl)
theorem cL:NmG (af aO) "max":=.of (by kernel_rfl)
theorem pJ:NmG (af aO) "range":=.of (by kernel_rfl)
theorem wx (T:Txt K mg) (hq:bO (CXe P w)) {f:Addr} {fd:FuncData} (D:Df K mg "_law_good" aO ["many","roads"] f fd):FnOk P w K mg base (CXe P w) 1 f fd ["many","roads"] (qi T):=by
 refine D.F.okC bM (fun vs H Q E h=>?_) (fun cdv A outer s H vs Q E hr h=>?_)
 . obtain ⟨l,m,ps,rs,rfl,_⟩:=h
   rfl
 . obtain ⟨l,m,ps,rs,rfl,hl,ro,rl,k,kn⟩:=h;have hu:=Cf hr;have hlen:ps.length=rs.length:=Paired.length ro;refine ⟨_,(am (be (PW.pt (iJ (aB py (pvl 0 cq) ah (ay _)) (iJ (aB ye (pvl 0 cq) ah (ay _)) (jr (aB ud (aI bD cN.g T.len d8 (aa (pvl 1 fC) aj) (hn:=cN.n) (hdb:=cN.d)) (aq kL (pvl 0 cq) ah) (ay _)))))) (ap (aU iL)) aG) (am (fh PassesOwn.never rfl (kU (pvl 1 fC)) (kC (n:=4) rfl (bn (aM (i:=2) bM.nd rfl (Or.inl b6.l)) (bn (aM (i:=3) bM.nd rfl (Or.inl bH.l)) (bn (aM (i:=4) bM.nd rfl (Or.inl dZ.l)) (bn (aM (i:=5) bM.nd rfl (Or.inl eK.l)) iR))))) (am (be (PW.pt (iJ (aB bA (pvl 2 b6) (pvl 3 bH) (ay _)) (iJ (aB py (aI (sW rfl) cR.g T.min zA (aa (pvl 2 b6) (aa (pvl 3 bH) aj)) (hn:=cR.n) (hdb:=cR.d)) ah (ay _)) (jr (aB Eb (aI (sR rfl) cL.g T.max zg (aa (pvl 2 b6) (aa (pvl 3 bH) aj)) (hn:=cL.n) (hdb:=cL.d)) (pvl 0 cq) (ay _)))))) (ap (aU iL)) aG) (ap (be (PW.pt (iJ (aB py (aI (sW rfl) cR.g T.min zA (aa (pvl 4 dZ) (aa (pvl 5 eK) aj)) (hn:=cR.n) (hdb:=cR.d)) ah (ay _)) (jr (aB ye (aI (sR rfl) cL.g T.max zg (aa (pvl 4 dZ) (aa (pvl 5 eK) aj)) (hn:=cL.n) (hdb:=cL.d)) (aq dw ah ah) (ay _))))) (ap (aU iL)) aG)))) (am (aw (i:=6) bM.nd rfl (Or.inl cP.l) (xn (uz ah iL xb) rfl rfl (List.cons_ne_nil _ _) (by decide))) (am (fh PassesOwn.never rfl (jP pJ.g T.range (aa (pvl 0 cq) aj)) (aM (i:=7) bM.nd rfl (Or.inl qE.l)) (ap (fh PassesOwn.never rfl (kU (pvl 1 fC)) (kC (n:=4) rfl (bn (aM (i:=2) bM.nd rfl (Or.inl b6.l)) (bn (aM (i:=3) bM.nd rfl (Or.inl bH.l)) (bn (aM (i:=4) bM.nd rfl (Or.inl dZ.l)) (bn (aM (i:=5) bM.nd rfl (Or.inl eK.l)) iR))))) (ap (be (PW.pt (iJ (ui (zo hu (pvl 2 b6) (pvl 6 cP))) (jr (ui (zo hu (pvl 3 bH) (pvl 6 cP)))))) (am (sF hu (pvl 6 cP) (pvl 2 b6) iL rfl) (ap (sF hu (pvl 6 cP) (pvl 3 bH) iL rfl))) aG))))) (ap (aU (g8 bA (aI tj cN.g T.len d8 (aa (pvl 6 cP) aj) (hn:=cN.n) (hdb:=cN.d)) (pvl 0 cq) (ay _)))))))),?_⟩;rw [show L2.start ["many","roads","one","other","there","back","met","turn"] [V.int m,V.ref l]=[some (V.int m),some (V.ref l),none,none,none,none,none,none] from rfl];refine bZ fun N1 h1=>?_;walk_at "rd";by_cases c1:m<1
   . rw [if_pos c1];exact kn (fun g=>by have:=g.m1;omega) H (Same.refl _)
   rw [if_neg c1];by_cases c2:24<m
   . rw [if_pos c2];exact kn (fun g=>by have:=g.m24;omega) H (Same.refl _)
   rw [if_neg c2];refine ⟨_,.inl (SqL.of hl),?_⟩;rw [List.length_map,hlen];by_cases c3:(rs.length:Int)=m - 1
   . rw [if_neg (fun z=>z c3)];refine h1 _ _ (bZ fun N2 h2=>?_);walk_at "rd";refine ⟨⟨_,SqL.of hl⟩,?_⟩;refine jO (K:=K) (xs:=ps.map V.ref) (fun i σ H2=>H2=H/\(∀ j r,j<i->rs[j]?=some r->RoadOk m r)/\∃ v2 v3 v4 v5,σ=[some (V.int m),some (V.ref l),v2,v3,v4,v5,none,none]) ⟨rfl,fun j r h=>absurd h (Nat.not_lt_zero _),_,_,_,_,rfl⟩ (fun i σ H2 _ z=>by rw [z.1];exact SqL.of hl) ?_ ?_
     . rintro i x σ H2 N hN hx ⟨rfl,oks,v2,v3,v4,v5,rfl⟩;obtain ⟨q,r,rfl,e1,e2,e3⟩:=ro.get hx;have rm:=List.mem_of_getElem? e2;have bad:¬ RoadOk m r->Q (.bl false) H2:=fun n=>kn (fun g=>n (g.ok r rm)) H2 (Same.refl _);walk_at "rd";refine ⟨_,SqT.of e3,rfl,_,_,rfl,_,_,rfl,_,_,rfl,_,_,rfl,rfl,?_⟩;refine ⟨rfl,?_⟩;by_cases d1:r.a=r.b
       . rw [if_pos (by rw [d1])];exact bad fun o=>o.ne d1
       rw [if_neg (fun z=>d1 (by injection z))];refine ⟨_,_,⟨rfl,rfl⟩,?_⟩;by_cases d2:(if r.b<r.a then r.b else r.a)<0
       . rw [if_pos d2];exact bad fun o=>by
           have:=o.a0;have:=o.b0;split at d2 <;> omega
       rw [if_neg d2];refine ⟨_,_,⟨rfl,rfl⟩,?_⟩;by_cases d3:m<=if r.b > r.a then r.b else r.a
       . rw [if_pos d3];exact bad fun o=>by
           have:=o.a1;have:=o.b1;split at d3 <;> omega
       rw [if_neg d3];refine ⟨_,_,⟨rfl,rfl⟩,?_⟩;by_cases d4:(if r.u<r.t then r.u else r.t)<2
       . rw [if_pos d4];exact bad fun o=>by
           have:=o.t0;have:=o.u0;split at d4 <;> omega
       rw [if_neg d4];refine ⟨_,_,⟨rfl,rfl⟩,⟨by decide,by decide,by decide⟩,?_⟩;by_cases d5:10^Int.toNat 6<if r.u > r.t then r.u else r.t
       . rw [if_pos d5];have e6:(10:Int)^Int.toNat 6=1000000:=(by decide);rw [e6] at d5;exact bad fun o=>by
           have:=o.t1;have:=o.u1;split at d5 <;> omega
       rw [if_neg d5];have e6:(10:Int)^Int.toNat 6=1000000:=(by decide);rw [e6] at d5;refine hN _ _ ⟨rfl,fun j x hj hx'=>?_,_,_,_,_,rfl⟩;by_cases z:j=i
       . subst z;rw [e2] at hx';cases hx';refine ⟨?_,?_,?_,?_,d1,?_,?_,?_,?_⟩ <;> (split at d2 <;> split at d3 <;> split at d4 <;> split at d5 <;> omega)
       . exact oks j x (by omega) hx'
     . rintro σ H2 ⟨rfl,oks,v2,v3,v4,v5,rfl⟩;rw [List.length_map,hlen] at oks;have ok:∀ r∈rs,RoadOk m r:=fun r hr=>by
         obtain ⟨j,hj⟩:=List.getElem?_of_mem hr;exact oks j r (List.getElem?_eq_some_iff.mp hj).1 hj
       refine h2 _ _ (bZ fun N3 h3=>?_);walk_at "rd";intro d hd;refine ⟨ag,[(Sum.inl 0,.bl true)],rfl,by decide,?_⟩;rw [cw];have ed:jA [] [((Sum.inl 0:Key),V.bl true)]=bI [0]:=rfl;rw [ed];have s1:=Same.new (.dK (bI [0])) hd;have e1:upd H2 d (.dK (bI [0])) d=some (.dK (bI [0])):=ag;generalize upd H2 d (.dK (bI [0]))=H3 at s1 e1 ⊢;refine h3 _ _ (bZ fun N4 h4=>?_);walk_at "rd";refine ⟨by omega,by omega,?_⟩;refine xQ (fun i σ H4=>Same H2 H4/\∃ (ks:List Int) (v2 v3 v4 v5 v7:Option V),H4 d=some (.dK (bI ks))/\ks.Nodup/\0∈ks/\(∀ k∈ks,0<=k/\k<m)/\Reach rs ks/\(sg rs ks\/i+1<=ks.length)/\σ=[some (V.int m),some (V.ref l),v2,v3,v4,v5,some (V.ref d),v7]) ⟨s1,[0],_,_,_,_,_,e1,by simp,by simp,fun k hk=>by rw [List.mem_singleton.mp hk];omega,Reach.start,.inr (by simp),rfl⟩ ?_ ?_
       . rintro i σ H4 N BB hBB hN hi ⟨s4,ks,w2,w3,w4,w5,w7,e4,nd,zero,rng,re,sh,rfl⟩;refine hBB _ _ ?_;walk_at "rd";refine ⟨⟨_,SqL.of (s4 _ _ hl)⟩,?_⟩;refine jO (K:=K) (xs:=ps.map V.ref) (fun j σ H5=>Same H2 H5/\∃ (ks5:List Int) (v2 v3 v4 v5:Option V),H5 d=some (.dK (bI ks5))/\Turn m rs ks j ks5/\σ=[some (V.int m),some (V.ref l),v2,v3,v4,v5,some (V.ref d),some (V.int (0+(i:Int)))]) ⟨s4,ks,_,_,_,_,e4,Turn.start nd rng re,rfl⟩ (fun j σ H5 _ z=>SqL.of (z.1 _ _ hl)) ?_ ?_
         . rintro j x σ H5 N2 hN2 hx ⟨s5,ks5,u2,u3,u4,u5,e5,tn,rfl⟩;obtain ⟨q,r,rfl,f1,f2,f3⟩:=ro.get hx;have rok:=ok r (List.mem_of_getElem? f2);have kl:=dF (by omega) tn.nd tn.rng;walk_at "rd";refine ⟨_,SqT.of (s5 _ _ f3),rfl,_,_,rfl,_,_,rfl,_,_,rfl,_,_,rfl,rfl,?_⟩;have both:r.a∈ks5\/r.b∈ks5->∃ x,DPut H5 d (V.int r.a) (V.bl true) x/\∃ x_1,DPut x d (V.int r.b) (V.bl true) x_1/\N2 [some (V.int m),some (V.ref l),some (V.int r.a),some (V.int r.b),some (V.int r.t),some (V.int r.u),some (V.ref d),some (V.int (0+(i:Int)))] x_1:=fun y=>by
             have ty:=tn.yes f2 rok y;have k5:=dF (by omega) ty.nd ty.rng;have a1:upd H5 d (.dK (dR (bI ks5) (Sum.inl r.a) (.bl true))) d=some (.dK (bI (ff ks5 r.a))):=(by rw [ag,sS]);have le1:(ff ks5 r.a).length<=(ff (ff ks5 r.a) r.b).length:=g0 (sj tn.nd) fun x hx=>m6.mpr (.inl hx);have le0:ks5.length<=(ff ks5 r.a).length:=g0 tn.nd fun x hx=>m6.mpr (.inl hx);refine ⟨_,DPut.k (k:=Sum.inl r.a) e5 (eG (by rw [ij];omega)),_,DPut.k (k:=Sum.inl r.b) a1 (eG (by rw [ij];omega)),?_⟩;rw [cw,sS];exact hN2 _ _ ⟨s5.put hd _,_,_,_,_,_,ag,ty,rfl⟩
           refine ⟨_,DGet.k (k:=Sum.inl r.a) e5,?_⟩;rw [m7];by_cases y1:r.a∈ks5
           . rw [if_pos y1,if_pos (by rfl)];exact both (.inl y1)
           . rw [if_neg y1,if_neg (by decide)];refine ⟨_,DGet.k (k:=Sum.inl r.b) e5,?_⟩;rw [m7];by_cases y2:r.b∈ks5
             . rw [if_pos y2,if_pos (by rfl)];exact both (.inr y2)
             . rw [if_neg y2,if_neg (by decide)];exact hN2 _ _ ⟨s5,ks5,_,_,_,_,e5,tn.no f2 (fun z=>z.elim y1 y2),rfl⟩
         . rintro σ H5 ⟨s5,ks5,u2,u3,u4,u5,e5,tn,rfl⟩;rw [List.length_map,hlen] at tn;refine hN _ _ ⟨s5,ks5,_,_,_,_,_,e5,tn.nd,tn.sub _ zero,tn.rng,tn.re,?_,rfl⟩;rcases sh with z|z
           . have:=tn.shut z;rw [this];exact .inl z
           . rcases tn.done nd with y|y
             . exact .inl y
             . exact .inr (by omega)
       . rintro BB σ H4 hBB ⟨s4,ks,w2,w3,w4,w5,w7,e4,nd,zero,rng,re,sh,rfl⟩;refine hBB _ _ (h4 _ _ ?_);have kl:=dF (by omega) nd rng;have shut:sg rs ks:=by
           rcases sh with z|z
           . exact z
           . omega
         walk_at "rd";refine ⟨bI ks,e4,?_⟩;rw [ij];by_cases z:(ks.length:Int)=m
         . rw [decide_eq_true z];exact k ⟨by omega,by omega,c3,ok,re.joined (by omega) nd rng z⟩ _ s4
         . rw [decide_eq_false z];exact kn (fun g=>z (zt (by omega) nd zero rng shut g.jn)) _ s4
   . rw [if_pos c3];exact kn (fun g=>c3 g.len) H (Same.refl _)
def dS (T:Txt K mg):Sp:=fun vs H Q _=>∃ (p:Addr) (m n:Int),vs=[.ref p,.int n]/\H p=some (.lst [.int m])/\0<n/\(n<1073741824\/n.natAbs<2^4000)/\Q (.int (m % n)) (upd H p (.lst [.int (m / n)]))
abbrev bi:Stmt:=top 28
theorem pN:FnScope ["pot","n","found"] ["pot","n"] (af bi):=FnScope.of (by kernel_rfl)
theorem gy:NmL (af bi) "pot":=.of (by kernel_rfl)
theorem nA:NmL (af bi) "n":=.of (by kernel_rfl)
theorem iH:NmL (af bi) "found":=.of (by kernel_rfl)
theorem vP (T:Txt K mg) (hq:bO (CXe P w)) {f:Addr} {fd:FuncData} (D:Df K mg "_law_take" bi ["pot","n"] f fd):FnOk P w K mg base (CXe P w) 1 f fd ["pot","n"] (dS T):=by
 refine D.F.okC pN (fun vs H Q E h=>?_) (fun cdv A outer s H vs Q E hr h=>?_)
 . obtain ⟨p,m,n,rfl,_⟩:=h
   rfl
 . obtain ⟨p,m,n,rfl,hp,h0,h1,k⟩:=h;have h1:n.natAbs<2^4000:=h1.elim (fun h=>fw (m:=30) (by omega) (by decide)) id;refine ⟨_,(am (aw (i:=2) pN.nd rfl (Or.inl iH.l) (aq eO (aA a6 (pvl 0 gy) ah (fun _ _=>rfl)) (pvl 1 nA))) (am (qH (aq BT (aA a6 (pvl 0 gy) ah (fun _ _=>rfl)) (pvl 1 nA)) (yF (pvl 0 gy) ah uK)) (ap (aU (pvl 2 iH))))),?_⟩;rw [show L2.start ["pot","n","found"] [V.ref p,V.int n]=[some (V.ref p),some (V.int n),none] from rfl];walk_at "rd";refine ixL hp rfl ⟨m,rfl,h0,?_⟩;refine ixL hp rfl ⟨m,rfl,⟨h0,AE (by omega) h1 (by decide)⟩,?_⟩;exact ⟨p,_,0,0,rfl,rfl,hp,rfl,k⟩
def jq (T:Txt K mg):Sp:=fun vs H Q _=>∃ (p q:Addr) (bad:Bool) (w:Int) (r:Road),vs=[.ref q,.ref p,.bl bad]/\H p=some (.lst [.int w])/\H q=some (.tup (bN r)) /\
 ∀ (t:Addr) (r':Road) (w':Int) (H':Hp),H t=none->Bar p H H'->H' p=some (.lst [.int w'])->H' t=some (.tup (bN r'))->Q (.ref t) H'
abbrev a4:Stmt:=top 35
theorem fk:FnScope ["road","pot","bad","far","some","odd"] ["road","pot","bad"] (af a4):=FnScope.of (by kernel_rfl)
theorem ce:NmL (af a4) "road":=.of (by kernel_rfl)
theorem fX:NmL (af a4) "pot":=.of (by kernel_rfl)
theorem qr:NmL (af a4) "bad":=.of (by kernel_rfl)
theorem fH:NmL (af a4) "far":=.of (by kernel_rfl)
theorem d0:NmL (af a4) "some":=.of (by kernel_rfl)
theorem fU:NmL (af a4) "odd":=.of (by kernel_rfl)
theorem bz:NmG (af a4) "_law_take":=.of (by kernel_rfl)
theorem fM:NmG (af a4) "len":=.of (by kernel_rfl)
theorem uM (T:Txt K mg) (hq:bO (CXe P w)) {f:Addr} {fd:FuncData} (D:Df K mg "_law_costs" a4 ["road","pot","bad"] f fd) {aJ:Addr} {aV:FuncData} (ak:Df K mg "_law_take" bi ["pot","n"] aJ aV) (G_law_take:FnOk P w K mg base (CXe P w) 1 aJ aV ["pot","n"] (dS T)):FnOk P w K mg base (CXe P w) 2 f fd ["road","pot","bad"] (jq T):=by
 refine D.F.okC fk (fun vs H Q E h=>?_) (fun cdv A outer s H vs Q E hr h=>?_)
 . obtain ⟨p,q,bad,w,r,rfl,_⟩:=h
   rfl
 . obtain ⟨p,q,bad,w,r,rfl,hp,hx,k⟩:=h;refine ⟨_,(am (aw (i:=3) fk.nd rfl (Or.inl fH.l) (au G_law_take (hr.mono (by decide)) bz.g ak.m ak.F.kp ak.b .nil (aP hq) (aa (pvl 1 fX) (aa (aq dw ah ah) aj)) (hdb:=bz.d))) (am (aw (i:=4) fk.nd rfl (Or.inl d0.l) (a9 (aa ah (aa (aq dw ah ah) (aa ah aj))))) (am (be (ur (pvl 2 qr) (fun _=>rfl)) (ap (aw (i:=4) fk.nd rfl (Or.inl d0.l) (a9 (aa ah (aa ah (aa (aq kL (pB kz ah) (pvl 3 fH)) (aa (aq cj (aq dw ah ah) ah) (aa (aq cj (aq cj (aq dw ah ah) ah) (pvl 3 fH)) aj)))))))) aG) (am (aw (i:=5) fk.nd rfl (Or.inl fU.l) (aA a6 (pvl 4 d0) (au G_law_take (hr.mono (by decide)) bz.g ak.m ak.F.kp ak.b .nil (aP hq) (aa (pvl 1 fX) (aa (aI bD fM.g T.len d8 (aa (pvl 4 d0) aj) (hn:=fM.n) (hdb:=fM.d)) aj)) (hdb:=bz.d)) (fun _ _=>rfl))) (am (be (aB bA (au G_law_take (hr.mono (by decide)) bz.g ak.m ak.F.kp ak.b .nil (aP hq) (aa (pvl 1 fX) (aa ah aj)) (hdb:=bz.d)) ah (ay _)) (ap (aU (ck (aa (aA bp (pvl 0 ce) ah (fun _ _=>rfl)) (aa (aA bp (pvl 0 ce) ah (fun _ _=>rfl)) (aa (aA bp (pvl 0 ce) ah (fun _ _=>rfl)) (aa (pvl 5 fU) aj))))))) aG) (ap (aU (ck (aa (aA bp (pvl 0 ce) ah (fun _ _=>rfl)) (aa (aA bp (pvl 0 ce) ah (fun _ _=>rfl)) (aa (pvl 5 fU) (aa (aA bp (pvl 0 ce) ah (fun _ _=>rfl)) aj)))))))))))),?_⟩;rw [show L2.start ["road","pot","bad","far","some","odd"] [V.ref q,V.ref p,V.bl bad]=[some (V.ref q),some (V.ref p),some (V.bl bad),none,none,none] from rfl];have nq:q≠p:=fun z=>by rw [z,hp] at hx;cases hx
   refine bZ fun N1 h1=>?_;walk_at "rd";refine ⟨⟨by decide,by decide,by decide⟩,p,w,_,rfl,hp,by decide,t9,?_⟩;generalize w % 10^Int.toNat 50=far;generalize w / 10^Int.toNat 50=w1;have fin:∀ (H3:Hp) (w3:Int),Bar p H H3->H3 p=some (.lst [.int w3])->∀ (r':Road) (t:Addr),H3 t=none->Q (.ref t) (upd H3 t (.tup (bN r'))):=fun H3 w3 b e r' t ht=>k t r' w3 _ (b.free hp e ht) (b.put (b.free hp e ht) _) (by rw [ao (fun z=>by rw [<- z,e] at ht;cases ht)];exact e) ag;have b1:Bar p H (upd H p (.lst [.int w1])):=(Bar.refl p H).pot _;have hp1:upd H p (.lst [.int w1]) p=some (.lst [.int w1]):=ag;generalize upd H p (.lst [.int w1])=H1 at b1 hp1 ⊢;refine h1 _ _ (bZ fun N2 h2=>?_);walk_at "rd";refine ⟨⟨by decide,by decide,by decide⟩,aD (by simp),fun l hl=>?_⟩;have hl0:=b1.free hp hp1 hl;have b2:=b1.put hl0 (HO.lst [V.int 2,V.int (10^Int.toNat 6),V.int 3]);have hp2:upd H1 l (HO.lst [V.int 2,V.int (10^Int.toNat 6),V.int 3]) p=some (.lst [.int w1]):=by rw [ao (fun z=>by rw [<- z,hp1] at hl;cases hl)];exact hp1
   have hl2:upd H1 l (HO.lst [V.int 2,V.int (10^Int.toNat 6),V.int 3]) l=some (.lst (([2,10^Int.toNat 6,3]:List Int).map V.int)):=ag;generalize upd H1 l (HO.lst [V.int 2,V.int (10^Int.toNat 6),V.int 3])=H2 at b2 hp2 hl2 ⊢;refine h2 _ _ (bZ fun N3 h3=>?_);have dU:∀ (l:Addr) (xs:List Int) (H1:Hp),Bar p H H1->H1 p=some (.lst [.int w1])->H1 l=some (.lst (xs.map V.int))->l≠p->1<=xs.length->xs.length<=9->N3 [some (V.ref q),some (V.ref p),some (V.bl bad),some (V.int far),some (V.ref l),none] H1:=fun l xs H1 b hp1 hl lp x1 x9=>by
     refine h3 _ _ ?_;walk_at "rd";have el:=(xs.length_map (f:=V.int));refine ⟨_,.inl (SqL.of hl),p,w1,_,rfl,hp1,by rw [el];omega,.inl (by rw [el];omega),?_⟩;obtain ⟨odd,_,eo⟩:=lR (x:=w1) (xs:=xs) (by omega);rw [el];refine ixL (by rw [ao lp];exact hl) eo ?_;refine ⟨p,w1 / (xs.length:Int),2,rfl,ag,by decide,.inl (by decide),?_⟩;rw [cw];have b3:=b.pot (HO.lst [V.int (w1 / (xs.length:Int) / 2)]);have hp3:upd H1 p (HO.lst [V.int (w1 / (xs.length:Int) / 2)]) p=_:=ag;have e3:=b3 _ _ hx nq;generalize upd H1 p (HO.lst [V.int (w1 / (xs.length:Int) / 2)])=H3 at b3 hp3 e3 ⊢;refine ⟨rfl,?_⟩;split
     . exact ixT e3 rfl (ixT e3 rfl (ixT e3 rfl ⟨aD (by simp),fun t ht=>fin H3 _ b3 hp3 ⟨r.a,r.b,r.t,odd⟩ t ht⟩))
     . exact ixT e3 rfl (ixT e3 rfl (ixT e3 rfl ⟨aD (by simp),fun t ht=>fin H3 _ b3 hp3 ⟨r.a,r.b,odd,r.u⟩ t ht⟩))
   walk_at "rd";refine ⟨bad,rfl,?_⟩;cases bad
   . rw [if_neg (by decide)];exact dU l _ _ b2 hp2 hl2 (fun z=>by rw [z,hp1] at hl;cases hl) (by simp) (by simp)
   . rw [if_pos rfl];refine ⟨⟨by decide,by decide,by decide⟩,⟨by decide,by decide,by decide⟩,aD (by simp),fun l2 hl2=>?_⟩;have np:l2≠p:=fun z=>by rw [z,hp2] at hl2;cases hl2
     exact dU l2 [1,0,-1 - far,10^Int.toNat 6+1,10^Int.toNat 6+1+far] _ (b2.put (b2.free hp hp2 hl2) _) (by rw [ao np.symm];exact hp2) ag np (by simp) (by simp)
def p7 (T:Txt K mg):Sp:=fun vs H Q _=>∃ (p q:Addr) (m w:Int) (r:Road),vs=[.int m,.ref q,.ref p]/\H p=some (.lst [.int w])/\H q=some (.tup (bN r)) /\
 ∀ (t:Addr) (r':Road) (w':Int) (H':Hp),H t=none->Bar p H H'->H' p=some (.lst [.int w'])->H' t=some (.tup (bN r'))->Q (.ref t) H'
abbrev bw:Stmt:=top 34
theorem j0:FnScope ["many","road","pot","far","odd"] ["many","road","pot"] (af bw):=FnScope.of (by kernel_rfl)
theorem jm:NmL (af bw) "many":=.of (by kernel_rfl)
theorem cA:NmL (af bw) "road":=.of (by kernel_rfl)
theorem gv:NmL (af bw) "pot":=.of (by kernel_rfl)
theorem gz:NmL (af bw) "far":=.of (by kernel_rfl)
theorem gC:NmL (af bw) "odd":=.of (by kernel_rfl)
theorem bE:NmG (af bw) "_law_take":=.of (by kernel_rfl)
theorem vZ (T:Txt K mg) (hq:bO (CXe P w)) {f:Addr} {fd:FuncData} (D:Df K mg "_law_ends" bw ["many","road","pot"] f fd) {aJ:Addr} {aV:FuncData} (ak:Df K mg "_law_take" bi ["pot","n"] aJ aV) (G_law_take:FnOk P w K mg base (CXe P w) 1 aJ aV ["pot","n"] (dS T)):FnOk P w K mg base (CXe P w) 2 f fd ["many","road","pot"] (p7 T):=by
 refine D.F.okC j0 (fun vs H Q E h=>?_) (fun cdv A outer s H vs Q E hr h=>?_)
 . obtain ⟨p,q,m,w,r,rfl,_⟩:=h
   rfl
 . obtain ⟨p,q,m,w,r,rfl,hp,hx,k⟩:=h;refine ⟨_,(am (aw (i:=3) j0.nd rfl (Or.inl gz.l) (au G_law_take (hr.mono (by decide)) bE.g ak.m ak.F.kp ak.b .nil (aP hq) (aa (pvl 2 gv) (aa (aq dw ah ah) aj)) (hdb:=bE.d))) (am (aw (i:=4) j0.nd rfl (Or.inl gC.l) (aA a6 (a9 (aa (pB kz ah) (aa (pvl 0 jm) (aa (aq kL (pB kz ah) (pvl 3 gz)) (aa (aq cj (pvl 0 jm) (pvl 3 gz)) aj))))) (au G_law_take (hr.mono (by decide)) bE.g ak.m ak.F.kp ak.b .nil (aP hq) (aa (pvl 2 gv) (aa ah aj)) (hdb:=bE.d)) (fun _ _=>rfl))) (am (be (aB bA (au G_law_take (hr.mono (by decide)) bE.g ak.m ak.F.kp ak.b .nil (aP hq) (aa (pvl 2 gv) (aa ah aj)) (hdb:=bE.d)) ah (ay _)) (ap (aU (ck (aa (aA bp (pvl 1 cA) ah (fun _ _=>rfl)) (aa (pvl 4 gC) (aa (aA bp (pvl 1 cA) ah (fun _ _=>rfl)) (aa (aA bp (pvl 1 cA) ah (fun _ _=>rfl)) aj))))))) aG) (ap (aU (ck (aa (pvl 4 gC) (aa (aA bp (pvl 1 cA) ah (fun _ _=>rfl)) (aa (aA bp (pvl 1 cA) ah (fun _ _=>rfl)) (aa (aA bp (pvl 1 cA) ah (fun _ _=>rfl)) aj)))))))))),?_⟩;rw [show L2.start ["many","road","pot","far","odd"] [V.int m,V.ref q,V.ref p]=[some (V.int m),some (V.ref q),some (V.ref p),none,none] from rfl];have nq:q≠p:=fun z=>by rw [z,hp] at hx;cases hx
   walk_at "rd";refine ⟨⟨by decide,by decide,by decide⟩,p,w,_,rfl,hp,by decide,t9,?_⟩;generalize w % 10^Int.toNat 50=far;generalize w / 10^Int.toNat 50=w1;have fin:∀ (H3:Hp) (w3:Int),Bar p H H3->H3 p=some (.lst [.int w3])->∀ (r':Road) (t:Addr),H3 t=none->Q (.ref t) (upd H3 t (.tup (bN r'))):=fun H3 w3 b e r' t ht=>k t r' w3 _ (b.free hp e ht) (b.put (b.free hp e ht) _) (by rw [ao (fun z=>by rw [<- z,e] at ht;cases ht)];exact e) ag;have b1:Bar p H (upd H p (.lst [.int w1])):=(Bar.refl p H).pot _;have hp1:upd H p (.lst [.int w1]) p=some (.lst [.int w1]):=ag;generalize upd H p (.lst [.int w1])=H1 at b1 hp1 ⊢;walk_at "rd";refine ⟨aD (by simp),fun l hl=>?_⟩;have hl0:=b1.free hp hp1 hl;have lp:l≠p:=fun z=>by rw [z,hp1] at hl;cases hl
   refine ⟨p,w1,4,rfl,by rw [ao lp.symm];exact hp1,by decide,.inl (by decide),?_⟩;obtain ⟨odd,_,eo⟩:=lR (x:=w1) (xs:=[-1,m,-1 - far,m+far]) (show (0:Int)<4 by decide);refine ixL (by rw [ao lp,ag];rfl) eo ?_;have b2:=(b1.put hl0 (HO.lst [V.int (-1),V.int m,V.int (-1 - far),V.int (m+far)])).pot (HO.lst [V.int (w1 / 4)]);refine ⟨p,w1 / 4,2,rfl,ag,by decide,.inl (by decide),?_⟩;have b3:=b2.pot (HO.lst [V.int (w1 / 4 / 2)]);have hp3:upd (upd (upd H1 l (HO.lst [V.int (-1),V.int m,V.int (-1 - far),V.int (m+far)])) p (HO.lst [V.int (w1 / 4)])) p (HO.lst [V.int (w1 / 4 / 2)]) p=_:=ag;have e3:=b3 _ _ hx nq;generalize upd (upd (upd H1 l (HO.lst [V.int (-1),V.int m,V.int (-1 - far),V.int (m+far)])) p (HO.lst [V.int (w1 / 4)])) p (HO.lst [V.int (w1 / 4 / 2)])=H3 at b3 hp3 e3 ⊢;refine ⟨rfl,?_⟩;split
   . exact ixT e3 rfl (ixT e3 rfl (ixT e3 rfl ⟨aD (by simp),fun t ht=>fin H3 _ b3 hp3 ⟨r.a,odd,r.t,r.u⟩ t ht⟩))
   . exact ixT e3 rfl (ixT e3 rfl (ixT e3 rfl ⟨aD (by simp),fun t ht=>fin H3 _ b3 hp3 ⟨odd,r.b,r.t,r.u⟩ t ht⟩))
def rC (T:Txt K mg):Sp:=fun vs H Q _=>∃ (l p:Addr) (ps:List Addr) (rs:List Road) (m kind w:Int),vs=[.int m,.ref l,.int kind,.ref p]/\H p=some (.lst [.int w])/\H l=some (.lst (ps.map V.ref))/\l≠p/\RoadsAt H ps rs/\1<=rs.length/\rs.length<=24/\1<=m/\m<=24 /\
 ∀ (t:Addr) (ps':List Addr) (rs':List Road) (w':Int) (H':Hp),H t=none->Bar p H H'->H' p=some (.lst [.int w'])->H' t=some (.lst (ps'.map V.ref))->RoadsAt H' ps' rs'->rs'.length<=100->Q (.ref t) H'
abbrev bc:Stmt:=top 36
theorem cZ:FnScope ["many","roads","kind","pot","at","road","other"] ["many","roads","kind","pot"] (af bc):=FnScope.of (by kernel_rfl)
theorem gr:NmL (af bc) "many":=.of (by kernel_rfl)
theorem bg:NmL (af bc) "roads":=.of (by kernel_rfl)
theorem bx:NmL (af bc) "kind":=.of (by kernel_rfl)
theorem dn:NmL (af bc) "pot":=.of (by kernel_rfl)
theorem cf:NmL (af bc) "at":=.of (by kernel_rfl)
theorem aQ:NmL (af bc) "road":=.of (by kernel_rfl)
theorem fS:NmL (af bc) "other":=.of (by kernel_rfl)
theorem bh:NmG (af bc) "_law_take":=.of (by kernel_rfl)
theorem dk:NmG (af bc) "len":=.of (by kernel_rfl)
theorem gQ:NmG (af bc) "_law_ends":=.of (by kernel_rfl)
theorem gA:NmG (af bc) "_law_costs":=.of (by kernel_rfl)
theorem xB (T:Txt K mg) (hq:bO (CXe P w)) {f:Addr} {fd:FuncData} (D:Df K mg "_law_put" bc ["many","roads","kind","pot"] f fd) {dP:Addr} {nQ:FuncData} (eW:Df K mg "_law_costs" a4 ["road","pot","bad"] dP nQ) (G_law_costs:FnOk P w K mg base (CXe P w) 2 dP nQ ["road","pot","bad"] (jq T)) {eI:Addr} {pS:FuncData} (fx:Df K mg "_law_ends" bw ["many","road","pot"] eI pS) (G_law_ends:FnOk P w K mg base (CXe P w) 2 eI pS ["many","road","pot"] (p7 T)) {aJ:Addr} {aV:FuncData} (ak:Df K mg "_law_take" bi ["pot","n"] aJ aV) (G_law_take:FnOk P w K mg base (CXe P w) 1 aJ aV ["pot","n"] (dS T)):FnOk P w K mg base (CXe P w) 3 f fd ["many","roads","kind","pot"] (rC T):=by
 refine D.F.okC cZ (fun vs H Q E h=>?_) (fun cdv A outer s H vs Q E hr h=>?_)
 . obtain ⟨l,p,ps,rs,m,kind,w,rfl,_⟩:=h
   rfl
 . obtain ⟨l,p,ps,rs,m,kind,w,rfl,hp,hl,lp,ro,r1,r24,m1,m24,k⟩:=h;have hlen:ps.length=rs.length:=Paired.length ro;refine ⟨_,(am (aw (i:=4) cZ.nd rfl (Or.inl cf.l) (au G_law_take (hr.mono (by decide)) bh.g ak.m ak.F.kp ak.b .nil (aP hq) (aa (pvl 3 dn) (aa (aI bD dk.g T.len d8 (aa (pvl 1 bg) aj) (hn:=dk.n) (hdb:=dk.d)) aj)) (hdb:=bh.d))) (am (aw (i:=5) cZ.nd rfl (Or.inl aQ.l) (aA a6 (pvl 1 bg) (pvl 4 cf) (fun _ _=>rfl))) (am (aw (i:=6) cZ.nd rfl (Or.inl fS.l) (aA a6 (pvl 1 bg) (au G_law_take (hr.mono (by decide)) bh.g ak.m ak.F.kp ak.b .nil (aP hq) (aa (pvl 3 dn) (aa (aI bD dk.g T.len d8 (aa (pvl 1 bg) aj) (hn:=dk.n) (hdb:=dk.d)) aj)) (hdb:=bh.d)) (fun _ _=>rfl))) (am (be (aB bA (pvl 2 bx) ah (ay _)) (ap (aU (aq gM (fo fY (pvl 1 bg) f9 (f8 (pvl 4 cf))) (fo fY (pvl 1 bg) (f8 (aq cj (pvl 4 cf) ah)) f9)))) aG) (am (be (aB bA (pvl 2 bx) ah (ay _)) (ap (aU (aq gM (aq gM (fo fY (pvl 1 bg) f9 (f8 (pvl 4 cf))) (a9 (aa (pvl 6 fS) aj))) (fo fY (pvl 1 bg) (f8 (pvl 4 cf)) f9)))) aG) (am (be (aB bA (pvl 2 bx) ah (ay _)) (ap (aw (i:=5) cZ.nd rfl (Or.inl aQ.l) (au G_law_ends (hr.mono (by decide)) gQ.g fx.m fx.F.kp fx.b .nil (aP hq) (aa (pvl 0 gr) (aa (pvl 5 aQ) (aa (pvl 3 dn) aj))) (hdb:=gQ.d)))) aG) (am (be (aB bA (pvl 2 bx) ah (ay _)) (ap (aw (i:=5) cZ.nd rfl (Or.inl aQ.l) (ck (aa (aA bp (pvl 5 aQ) ah (fun _ _=>rfl)) (aa (aA bp (pvl 5 aQ) ah (fun _ _=>rfl)) (aa (aA bp (pvl 5 aQ) ah (fun _ _=>rfl)) (aa (aA bp (pvl 5 aQ) ah (fun _ _=>rfl)) aj))))))) aG) (am (be (PW.pt (iJ (aB bA (pvl 2 bx) ah (ay _)) (jr (aB bA (pvl 2 bx) ah (ay _))))) (ap (aw (i:=5) cZ.nd rfl (Or.inl aQ.l) (au G_law_costs (hr.mono (by decide)) gA.g eW.m eW.F.kp eW.b .nil (aP hq) (aa (pvl 5 aQ) (aa (pvl 3 dn) (aa (g8 bA (pvl 2 bx) ah (ay _)) aj))) (hdb:=gA.d)))) aG) (am (be (aB bA (pvl 2 bx) ah (ay _)) (ap (aw (i:=5) cZ.nd rfl (Or.inl aQ.l) (pvl 6 fS))) aG) (am (be (aB bA (pvl 2 bx) ah (ay _)) (ap (aw (i:=5) cZ.nd rfl (Or.inl aQ.l) (ck (aa (au G_law_take (hr.mono (by decide)) bh.g ak.m ak.F.kp ak.b .nil (aP hq) (aa (pvl 3 dn) (aa (pvl 0 gr) aj)) (hdb:=bh.d)) (aa (au G_law_take (hr.mono (by decide)) bh.g ak.m ak.F.kp ak.b .nil (aP hq) (aa (pvl 3 dn) (aa (pvl 0 gr) aj)) (hdb:=bh.d)) (aa ah (aa ah aj))))))) aG) (ap (aU (aq gM (aq gM (fo fY (pvl 1 bg) f9 (f8 (pvl 4 cf))) (a9 (aa (pvl 5 aQ) aj))) (fo fY (pvl 1 bg) (f8 (aq cj (pvl 4 cf) ah)) f9)))))))))))))),?_⟩;rw [show L2.start ["many","roads","kind","pot","at","road","other"] [V.int m,V.ref l,V.int kind,V.ref p]=[some (V.int m),some (V.ref l),some (V.int kind),some (V.ref p),none,none,none] from rfl];refine bZ fun N1 h1=>?_;walk_at "rd";refine ⟨_,.inl (SqL.of hl),?_⟩;rw [List.length_map,hlen];have z0:(0:Int)<(rs.length:Int):=by omega
   refine ⟨p,w,_,rfl,hp,z0,.inl (by omega),?_⟩;have rg:=pG w z0;generalize w % (rs.length:Int)=at_ at rg ⊢;generalize w / (rs.length:Int)=w1;have b1:Bar p H (upd H p (.lst [.int w1])):=(Bar.refl p H).pot _;have hp1:upd H p (.lst [.int w1]) p=some (.lst [.int w1]):=ag;generalize upd H p (.lst [.int w1])=H1 at b1 hp1 ⊢;have hl1:=b1 _ _ hl lp;have ro1:=RoadsAt.bar b1 hp ro;refine h1 _ _ (bZ fun N2 h2=>?_);walk_at "rd";obtain ⟨q1,x1,e1,g1⟩:=Cn ro rg.1 rg.2;refine ixL hl1 e1 ?_;refine h2 _ _ (bZ fun N3 h3=>?_);walk_at "rd";refine ⟨_,.inl (SqL.of hl1),?_⟩;rw [List.length_map,hlen];refine ⟨p,w1,_,rfl,hp1,z0,.inl (by omega),?_⟩;have rg2:=pG w1 z0;generalize w1 % (rs.length:Int)=at2 at rg2 ⊢;obtain ⟨q2,x2,e2,g2⟩:=Cn ro rg2.1 rg2.2;have b2:=b1.pot (.lst [.int (w1 / (rs.length:Int))]);have hp2:upd H1 p (.lst [.int (w1 / (rs.length:Int))]) p=some (.lst [.int (w1 / (rs.length:Int))]):=ag;have n1:q1≠p:=fun z=>by rw [z,hp] at g1;cases g1
   have n2:q2≠p:=fun z=>by rw [z,hp] at g2;cases g2
   have hl2:upd H1 p (.lst [.int (w1 / (rs.length:Int))]) l=some (.lst (ps.map V.ref)):=by rw [ao lp];exact hl1
   generalize upd H1 p (.lst [.int (w1 / (rs.length:Int))])=H2 at b2 hp2 hl2 ⊢;generalize w1 / (rs.length:Int)=w2 at hp2;have ro2:=RoadsAt.bar b2 hp ro;refine ixL hl2 e2 ?_;have fin:∀ (G:Hp) (w:Int),Bar p H G->G p=some (.lst [.int w])->∀ (H3 H':Hp) (t:Addr) (ps':List Addr) (rs':List Road),Same G H3->H3 t=none->Same H3 H'->H' t=some (.lst (ps'.map V.ref))->RoadsAt H' ps' rs'->rs'.length<=100->Q (.ref t) H':=fun G w b e H3 H' t ps' rs' s3 ht s' et r' n'=>k t ps' rs' w H' (b.free hp e (s3.free ht)) ((b.same s3).same s') (s' _ _ (s3 _ _ e)) et r' n';have lay:∀ (G:Hp) (w:Int) (x:Addr) (r:Road) (lo hi lo2 hi2:Option Int),Bar p H G->G p=some (.lst [.int w])->G x=some (.tup (bN r))->xI K (V.ref l) lo hi G fun x_1 H1=>[V.ref x].length<=sizeLine/\∀ (y:Addr),H1 y=none->rCat x_1 (V.ref y) (upd H1 y (HO.lst [V.ref x])) fun z H1=>xI K (V.ref l) lo2 hi2 H1 fun y H2=>rCat z y H2 Q:=fun G w x r lo hi lo2 hi2 b e gx=>by
     have hl:=b _ _ hl lp;have ro:=RoadsAt.bar b hp ro;refine t7 hl ro fun t1 H3 p3 r3 f3 s3 h3 o3 n3=>⟨aD (by simp),fun y hy=>?_⟩;have s4:=Same.new (HO.lst [V.ref x]) hy;have hy4:upd H3 y (.lst [.ref x]) y=some (.lst ([x].map V.ref)):=ag;generalize upd H3 y (.lst [.ref x])=H4 at s4 hy4 ⊢;have s34:=s3.trans s4;refine rQ (s4 _ _ h3) hy4 (RoadsAt.same s4 o3) (.cons (s34 _ _ gx) .nil:RoadsAt H4 [x] [r]) (by simp;omega) fun t H5 p5 r5 f5 s5 h5 o5 n5=>?_;rw [List.length_singleton] at n5;have s35:=s34.trans s5;refine t7 (s35 _ _ hl) (RoadsAt.same s35 ro) fun t2 H6 p6 r6 f6 s6 h6 o6 n6=>?_;exact rQ (s6 _ _ h5) h6 (RoadsAt.same s6 o5) o6 (by omega) fun t H' p' r' f' s' h' o' n'=>fin G w b e H6 H' t p' r' (s35.trans s6) f' s' h' o' (by omega)
   refine h3 _ _ (bZ fun N4 h4=>?_);walk_at "rd";by_cases c4:kind=4
   . rw [if_pos c4];unfold tSl qL tNoPart;walk_at "rd";refine t7 hl2 ro2 fun t1 H3 p3 r3 f3 s3 h3 o3 n3=>?_;refine t7 (s3 _ _ hl2) (RoadsAt.same s3 ro2) fun t2 H4 p4 r4 f4 s4 h4 o4 n4=>?_;exact rQ (s4 _ _ h3) h4 (RoadsAt.same s4 o3) o4 (by omega) fun t H' p' r' f' s' h' o' n'=>fin H2 _ b2 hp2 H4 H' t p' r' (s3.trans s4) f' s' h' o' (by omega)
   rw [if_neg c4];refine h4 _ _ (bZ fun N5 h5=>?_);walk_at "rd";by_cases c5:kind=5
   . rw [if_pos c5];unfold tSl qL tNoPart;walk_at "rd";exact lay H2 _ q2 x2 _ _ _ _ b2 hp2 (b2 _ _ g2 n2)
   rw [if_neg c5];refine h5 _ _ (bZ fun N6 h6=>?_);walk_at "rd"
   suffices s6:∀ (G:Hp) (w:Int) (x:Addr) (r:Road),Bar p H G->G p=some (.lst [.int w])->G x=some (.tup (bN r))->N6 [some (V.int m),some (V.ref l),some (V.int kind),some (V.ref p),some (V.int at_),some (V.ref x),some (V.ref q2)] G by
     by_cases c6:kind=6
     . rw [if_pos c6];exact ⟨p,q1,m,_,x1,rfl,hp2,b2 _ _ g1 n1,fun t r' w' H' f b e et=>s6 H' w' t r' (b2.trans b) e et⟩
     . rw [if_neg c6];exact s6 H2 _ q1 x1 b2 hp2 (b2 _ _ g1 n1)
   clear b2 hp2 hl2 ro2;intro G w x r b e gx;refine h6 _ _ (bZ fun N7 h7=>?_);walk_at "rd"
   suffices s7:∀ (G:Hp) (w:Int) (x:Addr) (r:Road),Bar p H G->G p=some (.lst [.int w])->G x=some (.tup (bN r))->N7 [some (V.int m),some (V.ref l),some (V.int kind),some (V.ref p),some (V.int at_),some (V.ref x),some (V.ref q2)] G by
     by_cases c7:kind=7
     . rw [if_pos c7];exact ixT gx rfl (ixT gx rfl (ixT gx rfl (ixT gx rfl ⟨aD (by simp),fun y hy=>s7 _ w y ⟨r.a,r.a,r.t,r.u⟩ (b.put (b.free hp e hy) _) (by rw [ao (fun z=>by rw [<- z,e] at hy;cases hy)];exact e) ag⟩)))
     . rw [if_neg c7];exact s7 G w x r b e gx
   clear b e gx;intro G w x r b e gx;refine h7 _ _ (bZ fun N8 h8=>?_);walk_at "rd"
   suffices s8:∀ (G:Hp) (w:Int) (x:Addr) (r:Road),Bar p H G->G p=some (.lst [.int w])->G x=some (.tup (bN r))->N8 [some (V.int m),some (V.ref l),some (V.int kind),some (V.ref p),some (V.int at_),some (V.ref x),some (V.ref q2)] G by
     have go:∀ (bad:Bool),jq T [V.ref x,V.ref p,V.bl bad] G (fun x H1=>N8 [some (V.int m),some (V.ref l),some (V.int kind),some (V.ref p),some (V.int at_),some x,some (V.ref q2)] H1) E0:=fun bad=>⟨p,x,bad,_,r,rfl,e,gx,fun t r' w' H' f b' e et=>s8 H' w' t r' (b.trans b') e et⟩;by_cases c8:kind=8
     . rw [if_pos c8];exact go _
     . rw [if_neg c8];by_cases c9:kind=9
       . rw [if_pos c9];exact go _
       . rw [if_neg c9];exact s8 G w x r b e gx
   clear b e gx;intro G w x r b e gx;refine h8 _ _ (bZ fun N9 h9=>?_);walk_at "rd"
   suffices s9:∀ (G:Hp) (w:Int) (x:Addr) (r:Road),Bar p H G->G p=some (.lst [.int w])->G x=some (.tup (bN r))->N9 [some (V.int m),some (V.ref l),some (V.int kind),some (V.ref p),some (V.int at_),some (V.ref x),some (V.ref q2)] G by
     by_cases c7:kind=10
     . rw [if_pos c7];exact s9 G w q2 x2 b e (b _ _ g2 n2)
     . rw [if_neg c7];exact s9 G w x r b e gx
   clear b e gx;intro G w x r b e gx;refine h9 _ _ (bZ fun N10 h10=>?_);walk_at "rd"
   suffices s10:∀ (G:Hp) (w:Int) (x:Addr) (r:Road),Bar p H G->G p=some (.lst [.int w])->G x=some (.tup (bN r))->N10 [some (V.int m),some (V.ref l),some (V.int kind),some (V.ref p),some (V.int at_),some (V.ref x),some (V.ref q2)] G by
     by_cases c7:kind=11
     . rw [if_pos c7];refine ⟨p,w,m,rfl,e,by omega,.inl (by omega),?_⟩;refine ⟨p,w / m,m,rfl,ag,by omega,.inl (by omega),aD (by simp),fun y hy=>?_⟩;rw [cw] at hy ⊢;have b':=b.pot (.lst [.int (w / m / m)]);have e':upd G p (.lst [.int (w / m / m)]) p=some (.lst [.int (w / m / m)]):=ag;exact s10 _ (w / m / m) y ⟨w % m,w / m % m,2,3⟩ (b'.put (b'.free hp e' hy) _) (by rw [ao (fun z=>by rw [<- z,e'] at hy;cases hy)];exact e') ag
     . rw [if_neg c7];exact s10 G w x r b e gx
   clear b e gx;intro G w x r b e gx;refine h10 _ _ ?_;walk_at "rd";unfold tSl qL tNoPart;walk_at "rd";exact lay G w x r _ _ _ _ b e gx
def kW (T:Txt K mg):Sp:=fun vs H Q _=>∃ (l p:Addr) (ps:List Addr) (rs:List Road) (m w:Int),vs=[.int m,.ref l,.ref p]/\H p=some (.lst [.int w])/\H l=some (.lst (ps.map V.ref))/\l≠p/\RoadsAt H ps rs/\rs.length<=24/\1<=m/\m<=24 /\
 ∀ (t l':Addr) (m':Int) (ps':List Addr) (rs':List Road) (H':Hp),Bar p H H'->l'≠p->H' t=some (.tup [.int m',.ref l'])->H' l'=some (.lst (ps'.map V.ref))->RoadsAt H' ps' rs'->rs'.length<=100->Q (.ref t) H'
abbrev aR:Stmt:=top 37
theorem kT:FnScope ["many","roads","pot","kind"] ["many","roads","pot"] (af aR):=FnScope.of (by kernel_rfl)
theorem bK:NmL (af aR) "many":=.of (by kernel_rfl)
theorem bF:NmL (af aR) "roads":=.of (by kernel_rfl)
theorem bo:NmL (af aR) "pot":=.of (by kernel_rfl)
theorem bJ:NmL (af aR) "kind":=.of (by kernel_rfl)
theorem ar:NmG (af aR) "_law_take":=.of (by kernel_rfl)
theorem fj:NmG (af aR) "len":=.of (by kernel_rfl)
theorem fD:NmG (af aR) "_law_put":=.of (by kernel_rfl)
theorem sK (T:Txt K mg) (hq:bO (CXe P w)) {f:Addr} {fd:FuncData} (D:Df K mg "_law_spoiled" aR ["many","roads","pot"] f fd) {fc:Addr} {rP:FuncData} (f7:Df K mg "_law_put" bc ["many","roads","kind","pot"] fc rP) (G_law_put:FnOk P w K mg base (CXe P w) 3 fc rP ["many","roads","kind","pot"] (rC T)) {aJ:Addr} {aV:FuncData} (ak:Df K mg "_law_take" bi ["pot","n"] aJ aV) (G_law_take:FnOk P w K mg base (CXe P w) 1 aJ aV ["pot","n"] (dS T)):FnOk P w K mg base (CXe P w) 4 f fd ["many","roads","pot"] (kW T):=by
 refine D.F.okC kT (fun vs H Q E h=>?_) (fun cdv A outer s H vs Q E hr h=>?_)
 . obtain ⟨l,p,ps,rs,m,w,rfl,_⟩:=h
   rfl
 . obtain ⟨l,p,ps,rs,m,w,rfl,hp,hl,lp,ro,r24,m1,m24,k⟩:=h;have hlen:ps.length=rs.length:=Paired.length ro;refine ⟨_,(am (aw (i:=3) kT.nd rfl (Or.inl bJ.l) (au G_law_take (hr.mono (by decide)) ar.g ak.m ak.F.kp ak.b .nil (aP hq) (aa (pvl 2 bo) (aa ah aj)) (hdb:=ar.d))) (am (be (aB bA (pvl 3 bJ) ah (ay _)) (ap (aU (ck (aa (aA a6 (a9 (aa ah (aa (pB kz ah) (aa (aq kL (pB kz ah) (au G_law_take (hr.mono (by decide)) ar.g ak.m ak.F.kp ak.b .nil (aP hq) (aa (pvl 2 bo) (aa (aq dw ah ah) aj)) (hdb:=ar.d))) (aa ah aj))))) (au G_law_take (hr.mono (by decide)) ar.g ak.m ak.F.kp ak.b .nil (aP hq) (aa (pvl 2 bo) (aa ah aj)) (hdb:=ar.d)) (fun _ _=>rfl)) (aa (aA a6 (a9 (aa (pvl 1 bF) (aa (a9 aj) aj))) (au G_law_take (hr.mono (by decide)) ar.g ak.m ak.F.kp ak.b .nil (aP hq) (aa (pvl 2 bo) (aa ah aj)) (hdb:=ar.d)) (fun _ _=>rfl)) aj))))) aG) (am (be (aB bA (pvl 3 bJ) ah (ay _)) (ap (aU (ck (aa (aq cj (pvl 0 bK) (aA a6 (a9 (aa ah (aa (pB kz ah) (aa (aq cj ah (au G_law_take (hr.mono (by decide)) ar.g ak.m ak.F.kp ak.b .nil (aP hq) (aa (pvl 2 bo) (aa (aq dw ah ah) aj)) (hdb:=ar.d))) aj)))) (au G_law_take (hr.mono (by decide)) ar.g ak.m ak.F.kp ak.b .nil (aP hq) (aa (pvl 2 bo) (aa ah aj)) (hdb:=ar.d)) (fun _ _=>rfl))) (aa (pvl 1 bF) aj))))) aG) (am (be (aB bA (pvl 3 bJ) ah (ay _)) (ap (aU (ck (aa (pvl 0 bK) (aa (aq gM (pvl 1 bF) (a9 (aa (ck (aa ah (aa (au G_law_take (hr.mono (by decide)) ar.g ak.m ak.F.kp ak.b .nil (aP hq) (aa (pvl 2 bo) (aa (pvl 0 bK) aj)) (hdb:=ar.d)) (aa ah (aa ah aj))))) aj))) aj))))) aG) (am (be (PW.pt (iJ (aB py (pvl 3 bJ) ah (ay _)) (jr (aB bA (aI bD fj.g T.len d8 (aa (pvl 1 bF) aj) (hn:=fj.n) (hdb:=fj.d)) ah (ay _))))) (ap (aU (ck (aa (pvl 0 bK) (aa (pvl 1 bF) aj))))) aG) (ap (aU (ck (aa (pvl 0 bK) (aa (au G_law_put (hr.mono (by decide)) fD.g f7.m f7.F.kp f7.b .nil (aP hq) (aa (pvl 0 bK) (aa (pvl 1 bF) (aa (pvl 3 bJ) (aa (pvl 2 bo) aj)))) (hdb:=fD.d)) aj)))))))))),?_⟩;rw [show L2.start ["many","roads","pot","kind"] [V.int m,V.ref l,V.ref p]=[some (V.int m),some (V.ref l),some (V.ref p),none] from rfl];refine bZ fun N1 h1=>?_;walk_at "rd";refine ⟨p,w,_,rfl,hp,by decide,.inl (by decide),?_⟩;generalize w % 12=kind;generalize w / 12=w1;have b1:Bar p H (upd H p (.lst [.int w1])):=(Bar.refl p H).pot _;have hp1:upd H p (.lst [.int w1]) p=some (.lst [.int w1]):=ag;generalize upd H p (.lst [.int w1])=H1 at b1 hp1 ⊢;have hl1:=b1 _ _ hl lp;have ro1:=RoadsAt.bar b1 hp ro;have fin:∀ (G:Hp) (w:Int),Bar p H G->G p=some (.lst [.int w])->∀ (m':Int) (l':Addr) (ps':List Addr) (rs':List Road),G l'=some (.lst (ps'.map V.ref))->l'≠p->RoadsAt G ps' rs'->rs'.length<=100->[V.int m',V.ref l'].length<=sizeLine/\∀ t,G t=none->Q (.ref t) (upd G t (.tup [.int m',.ref l'])):=fun G w b e m' l' ps' rs' el nl r n=>⟨aD (by simp),fun t ht=>k t l' m' ps' rs' _ (b.put (b.free hp e ht) _) nl ag (Same.new _ ht _ _ el) (RoadsAt.same (Same.new _ ht) r) n⟩;have npot:∀ {G:Hp} {w:Int} {t:Addr},G p=some (.lst [.int w])->G t=none->t≠p:=fun e ht z=>by rw [z,e] at ht;cases ht
   refine h1 _ _ (bZ fun N2 h2=>?_);walk_at "rd";by_cases c1:kind=1
   . rw [if_pos c1];refine ⟨⟨by decide,by decide,by decide⟩,p,w1,_,rfl,hp1,by decide,t9,_,rfl,aD (by simp),fun q1 f1=>?_⟩;generalize w1 % 10^Int.toNat 50=far;generalize w1 / 10^Int.toNat 50=w2 at f1 ⊢;have b2:=b1.pot (.lst [.int w2]);have hp2:upd H1 p (.lst [.int w2]) p=some (.lst [.int w2]):=ag;generalize upd H1 p (.lst [.int w2])=H2 at b2 hp2 f1 ⊢;have n1:=npot hp2 f1;refine ⟨p,w2,4,rfl,by rw [ao n1.symm];exact hp2,by decide,.inl (by decide),?_⟩;obtain ⟨m',_,em⟩:=lR (x:=w2) (xs:=[0,-1,-1 - far,0]) (show (0:Int)<4 by decide);refine ixL (by rw [ao n1,ag];rfl) em ?_;have b3:=(b2.put (b2.free hp hp2 f1) (.lst [V.int 0,V.int (-1),V.int (-1 - far),V.int 0])).pot (.lst [.int (w2 / 4)]);have hp3:upd (upd H2 q1 (.lst [V.int 0,V.int (-1),V.int (-1 - far),V.int 0])) p (.lst [.int (w2 / 4)]) p=some (.lst [.int (w2 / 4)]):=ag;generalize upd (upd H2 q1 (.lst [V.int 0,V.int (-1),V.int (-1 - far),V.int 0])) p (.lst [.int (w2 / 4)])=H3 at b3 hp3 ⊢;refine ⟨aD (by simp),fun q2 f2=>⟨aD (by simp),fun q3 f3=>?_⟩⟩;have n2:=npot hp3 f2;have s4:=Same.new (.lst []) f2;have e2:upd H3 q2 (.lst []) q2=some (.lst (([]:List Addr).map V.ref)):=ag;generalize upd H3 q2 (.lst [])=H4 at s4 e2 f3 ⊢;have n3:=npot (s4 _ _ hp3) f3;have s5:=Same.new (.lst [V.ref l,V.ref q2]) f3;have e3:upd H4 q3 (.lst [V.ref l,V.ref q2]) q3=some (.lst [V.ref l,V.ref q2]):=ag;generalize upd H4 q3 (.lst [V.ref l,V.ref q2])=H5 at s5 e3 ⊢;have b5:=(b3.same s4).same s5;refine ⟨p,w2 / 4,2,rfl,s5 _ _ (s4 _ _ hp3),by decide,.inl (by decide),?_⟩;rcases (show w2 / 4 % 2=0\/w2 / 4 % 2=1 by omega) with z|z
     . rw [z];refine ixL (by rw [ao n3];exact e3) rfl ?_;exact fin _ _ (b5.pot _) ag m' l ps rs ((b5.pot _) _ _ hl lp) lp (RoadsAt.bar (b5.pot _) hp ro) (by omega)
     . rw [z];refine ixL (by rw [ao n3];exact e3) rfl ?_;exact fin _ _ (b5.pot _) ag m' q2 [] [] (by rw [ao n2];exact s5 _ _ e2) n2 .nil (by simp)
   rw [if_neg c1];refine h2 _ _ (bZ fun N3 h3=>?_);walk_at "rd";by_cases c1:kind=2
   . rw [if_pos c1];refine ⟨⟨by decide,by decide,by decide⟩,p,w1,_,rfl,hp1,by decide,t9,_,rfl,aD (by simp),fun q1 f1=>?_⟩;generalize w1 % 10^Int.toNat 50=far;generalize w1 / 10^Int.toNat 50=w2 at f1 ⊢;have b2:=b1.pot (.lst [.int w2]);have hp2:upd H1 p (.lst [.int w2]) p=some (.lst [.int w2]):=ag;generalize upd H1 p (.lst [.int w2])=H2 at b2 hp2 f1 ⊢;have n1:=npot hp2 f1;refine ⟨p,w2,3,rfl,by rw [ao n1.symm];exact hp2,by decide,.inl (by decide),?_⟩;obtain ⟨m',_,em⟩:=lR (x:=w2) (xs:=[1,-1,2+far]) (show (0:Int)<3 by decide);refine ixL (by rw [ao n1,ag];rfl) em ⟨_,rfl,?_⟩;have b3:=(b2.put (b2.free hp hp2 f1) (.lst [V.int 1,V.int (-1),V.int (2+far)])).pot (.lst [.int (w2 / 3)]);exact fin _ _ b3 ag _ l ps rs (b3 _ _ hl lp) lp (RoadsAt.bar b3 hp ro) (by omega)
   rw [if_neg c1];refine h3 _ _ (bZ fun N4 h4=>?_);walk_at "rd";by_cases c1:kind=3
   . rw [if_pos c1];refine ⟨p,w1,m,rfl,hp1,by omega,.inl (by omega),?_⟩;generalize w1 % m=v;generalize w1 / m=w2;have b2:=b1.pot (.lst [.int w2]);have hp2:upd H1 p (.lst [.int w2]) p=some (.lst [.int w2]):=ag;generalize upd H1 p (.lst [.int w2])=H2 at b2 hp2 ⊢;refine ⟨aD (by simp),fun q1 f1=>⟨aD (by simp),fun q2 f2=>?_⟩⟩;have s3:=Same.new (.tup [V.int 0,V.int v,V.int 2,V.int 2]) f1;have e3:upd H2 q1 (.tup [V.int 0,V.int v,V.int 2,V.int 2]) q1=some (.tup (bN ⟨0,v,2,2⟩)):=ag;generalize upd H2 q1 (.tup [V.int 0,V.int v,V.int 2,V.int 2])=H3 at s3 e3 f2 ⊢;have s4:=Same.new (.lst [V.ref q1]) f2;have e4:upd H3 q2 (.lst [V.ref q1]) q2=some (.lst ([q1].map V.ref)):=ag;generalize upd H3 q2 (.lst [V.ref q1])=H4 at s4 e4 ⊢;have b4:=(b2.same s3).same s4;have hp4:=s4 _ _ (s3 _ _ hp2);refine rQ (b4 _ _ hl lp) e4 (RoadsAt.bar b4 hp ro) (.cons (s4 _ _ e3) .nil:RoadsAt H4 [q1] [⟨0,v,2,2⟩]) (by simp;omega) fun t H5 p5 r5 f5 s5 h5 o5 n5=>?_;rw [List.length_singleton] at n5;exact fin H5 _ (b4.same s5) (s5 _ _ hp4) m t p5 r5 h5 (npot hp4 f5) o5 (by omega)
   rw [if_neg c1];refine h4 _ _ ?_;walk_at "rd";have asis:=fin H1 _ b1 hp1 m l ps rs hl1 lp ro1 (by omega);by_cases c4:kind<4
   . rw [if_pos c4];exact asis
   rw [if_neg c4];refine ⟨_,.inl (SqL.of hl1),?_⟩;rw [List.length_map,hlen];by_cases c5:(rs.length:Int)=0
   . rw [if_pos c5];exact asis
   rw [if_neg c5];exact ⟨l,p,ps,rs,m,kind,w1,rfl,hp1,hl1,lp,ro1,by omega,r24,m1,m24,fun t ps' rs' w' H' f b e h o n=>fin H' w' (b1.trans b) e m t ps' rs' h (npot hp1 f) o n⟩
def j3 (T:Txt K mg):Sp:=fun vs H Q _=>∃ c i:Int,vs=[.int c,.int i]/\0<=i/\i<=1000000/\∀ v,0<=v->Q (.int v) H
abbrev bQ:Stmt:=top 26
theorem kt:FnScope ["cell","k","big"] ["cell","k"] (af bQ):=FnScope.of (by kernel_rfl)
theorem qD:NmL (af bQ) "cell":=.of (by kernel_rfl)
theorem ir:NmL (af bQ) "k":=.of (by kernel_rfl)
theorem dE:NmL (af bQ) "big":=.of (by kernel_rfl)
theorem vA (T:Txt K mg) (hq:bO (CXe P w)) {f:Addr} {fd:FuncData} (D:Df K mg "_law_stir" bQ ["cell","k"] f fd):FnOk P w K mg base (CXe P w) 1 f fd ["cell","k"] (j3 T):=by
 refine D.F.okC kt (fun vs H Q E h=>?_) (fun cdv A outer s H vs Q E hr h=>?_)
 . obtain ⟨c,i,rfl,_⟩:=h
   rfl
 . obtain ⟨c,i,rfl,h0,h1,k⟩:=h;refine ⟨_,(am (aw (i:=2) kt.nd rfl (Or.inl dE.l) (aq xm (aq cj (aq eO (pvl 0 qD) (aq dw ah ah)) ah) (aq cj ah (aq rj (aq rj ah (pvl 1 ir)) (pvl 1 ir))))) (am (aw (i:=2) kt.nd rfl (Or.inl dE.l) (aq cj (pvl 2 dE) (aq rj ah (pvl 1 ir)))) (ap (aU (aq eO (aq xm (pvl 2 dE) (pvl 2 dE)) (aq cj (aq dw ah ah) ah)))))),?_⟩;rw [show L2.start ["cell","k","big"] [V.int c,V.int i]=[some (V.int c),some (V.int i),none] from rfl];walk_at "rd";obtain ⟨e1,e2,e3⟩:=zz c i h0 h1;have pw:DC 10 60:=⟨by decide,by decide,by decide⟩;have p33:(0:Int)<10^(60:Int).toNat+33:=Int.add_pos p60 (by decide);refine ⟨pw,p60,.inl ⟨by decide,by decide⟩,.inr ⟨by omega,by omega⟩,yO (fw e1 (by decide)) (fw e2 (by decide)),.inl ⟨by decide,by decide⟩,yO e3 e3,pw,p33,?_⟩;exact k _ (Int.emod_nonneg _ (Int.ne_of_gt p33))
def pU (T:Txt K mg):Sp:=fun vs H Q _=>∃ (a:Addr) (ns:List Int) (k:Int),vs=[.ref a,.int k]/\SqL K H a (ns.map V.int)/\0<=k/\∀ v,0<=v->v<10^60->Q (.int v) H
abbrev bX:Stmt:=top 25
theorem vz:FnScope ["script","k"] ["script","k"] (af bX):=FnScope.of (by kernel_rfl)
theorem ik:NmL (af bX) "script":=.of (by kernel_rfl)
theorem nK:NmL (af bX) "k":=.of (by kernel_rfl)
theorem gq:NmG (af bX) "len":=.of (by kernel_rfl)
theorem vF (T:Txt K mg) (hq:bO (CXe P w)) {f:Addr} {fd:FuncData} (D:Df K mg "_law_cell" bX ["script","k"] f fd):FnOk P w K mg base (CXe P w) 1 f fd ["script","k"] (pU T):=by
 refine D.F.okC vz (fun vs H Q E h=>?_) (fun cdv A outer s H vs Q E hr h=>?_)
 . obtain ⟨a,ns,i,rfl,_⟩:=h
   rfl
 . obtain ⟨a,ns,i,rfl,ha,h0,k⟩:=h;refine ⟨_,(am (be (aB py (pvl 1 nK) (aI bD gq.g T.len d8 (aa (pvl 0 ik) aj) (hn:=gq.n) (hdb:=gq.d)) (ay _)) (ap (aU (aq eO (aA a6 (pvl 0 ik) (pvl 1 nK) (fun _ _=>rfl)) (aq dw ah ah)))) aG) (ap (aU ah))),?_⟩;rw [show L2.start ["script","k"] [V.ref a,V.int i]=[some (V.ref a),some (V.int i)] from rfl];walk_at "rd";refine ⟨_,.inl ha,?_⟩;rw [List.length_map];by_cases c:i<(ns.length:Int)
   . rw [if_pos c];have hi:i.toNat<ns.length:=(by omega);refine ixS ha (gY h0 (v:=.int ns[i.toNat]) (by rw [List.getElem?_map,List.getElem?_eq_getElem hi];rfl)) ?_;refine ⟨⟨by decide,by decide,by decide⟩,_,rfl,p60,?_⟩;exact k _ (Int.emod_nonneg _ (Int.ne_of_gt p60)) (Int.emod_lt_of_pos _ p60)
   . rw [if_neg c];exact k 0 (by decide) p60
theorem BH (n:Nat) (v:V):(List.replicate n [v]).flatten=List.replicate n v:=by
 induction n with
 | zero=>rfl
 | succ n ih=>rw [List.replicate_succ,List.flatten_cons,ih,List.replicate_succ];rfl
def ph (T:Txt K mg):Sp:=fun vs H Q _=>∃ (a:Addr) (ns:List Int) (m:Int),vs=[.ref a,.int m]/\SqL K H a (ns.map V.int)/\ns.length<=100/\1<=m/\m<=100 /\
 ∀ (l:Addr) (cs:List Int) (H':Hp),H l=none->Same H H'->H' l=some (.lst (cs.map V.int))->(cs.length:Int)=m->Q (.ref l) H'
abbrev bf:Stmt:=top 27
theorem gJ:FnScope ["script","many","cells","k","at"] ["script","many"] (af bf):=FnScope.of (by kernel_rfl)
theorem gP:NmL (af bf) "script":=.of (by kernel_rfl)
theorem iI:NmL (af bf) "many":=.of (by kernel_rfl)
theorem dH:NmL (af bf) "cells":=.of (by kernel_rfl)
theorem g4:NmL (af bf) "k":=.of (by kernel_rfl)
theorem gn:NmL (af bf) "at":=.of (by kernel_rfl)
theorem n8:NmG (af bf) "range":=.of (by kernel_rfl)
theorem fV:NmG (af bf) "len":=.of (by kernel_rfl)
theorem uI (T:Txt K mg) (hq:bO (CXe P w)) {f:Addr} {fd:FuncData} (D:Df K mg "_law_cells" bf ["script","many"] f fd):FnOk P w K mg base (CXe P w) 1 f fd ["script","many"] (ph T):=by
 refine D.F.okC gJ (fun vs H Q E h=>?_) (fun cdv A outer s H vs Q E hr h=>?_)
 . obtain ⟨a,ns,m,rfl,_⟩:=h
   rfl
 . obtain ⟨a,ns,m,rfl,ha,hl,m1,m2,k⟩:=h;refine ⟨_,(am (aw (i:=2) gJ.nd rfl (Or.inl dH.l) (aq C1 (a9 (aa ah aj)) (pvl 1 iI))) (am (fh PassesOwn.never rfl (jP n8.g T.range (aa (aI bD fV.g T.len d8 (aa (pvl 0 gP) aj) (hn:=fV.n) (hdb:=fV.d)) aj)) (aM (i:=3) gJ.nd rfl (Or.inl g4.l)) (am (aw (i:=4) gJ.nd rfl (Or.inl gn.l) (aq eO (pvl 3 g4) (pvl 1 iI))) (ap (qH (aq eO (aq cj (aq rj (aA a6 (pvl 2 dH) (pvl 4 gn) (fun _ _=>rfl)) ah) (aA a6 (pvl 0 gP) (pvl 3 g4) (fun _ _=>rfl))) (aq dw ah ah)) (yF (pvl 2 dH) (pvl 4 gn) uK))))) (ap (aU (pvl 2 dH))))),?_⟩;rw [show L2.start ["script","many","cells","k","at"] [V.ref a,V.int m]=[some (V.ref a),some (V.int m),none,none,none] from rfl];walk_at "rd";refine ⟨by decide,fun q hn=>⟨q,m,[.int 0],rfl,rfl,ag,by omega,by omega,aD (by simp;omega),fun l hl0=>?_⟩⟩;rw [BH];have s1:Same H (upd H q (.lst [.int 0])):=Same.new _ hn;have nlq:l≠q:=fun z=>by rw [z,ag] at hl0;cases hl0
   have hln:H l=none:=by rw [ao nlq] at hl0;exact hl0
   have sa:∀ o,SqL K (upd (upd H q (.lst [.int 0])) l o) a (ns.map V.int):=fun o=>Same.seq (s1.trans (Same.new _ hl0)) ha;refine ⟨_,.inl (sa _),by rw [List.length_map];omega,by rw [List.length_map];omega,?_⟩;rw [List.length_map,Int.toNat_natCast];refine mL (fun i σ H2=>∃ (cs:List Int) (v3 v4:Option V),H2=upd (upd H q (.lst [.int 0])) l (.lst (cs.map V.int))/\(cs.length:Int)=m/\σ=[some (.ref a),some (.int m),some (.ref l),v3,v4]) ⟨List.replicate m.toNat 0,none,none,by rw [List.map_replicate],by rw [List.length_replicate];omega,rfl⟩ ?_ ?_
   . rintro i σ H2 N hN hi ⟨cs,v3,v4,rfl,hcs,rfl⟩;walk_at "rd";rw [Int.zero_add];have h1:=Int.emod_nonneg (i:Int) (show m≠0 by omega);have h2:=Int.emod_lt_of_pos (i:Int) (show 0<m by omega);have hc:((i:Int) % m).toNat<cs.length:=(by omega);refine ⟨by omega,?_⟩;refine ixL ag (gY h1 (v:=.int cs[((i:Int) % m).toNat]) (by rw [List.getElem?_map,List.getElem?_eq_getElem hc];rfl)) ?_;refine ⟨_,rfl,.inr ⟨by decide,by decide⟩,?_⟩;refine ixS (sa _) (pE (v:=.int ns[i]) (by rw [List.getElem?_map,List.getElem?_eq_getElem hi];rfl)) ?_;refine ⟨_,rfl,⟨by decide,by decide,by decide⟩,p60,?_⟩;refine ⟨l,_,_,((i:Int) % m).toNat,rfl,rfl,ag,?_,?_⟩
     . unfold ixN;rw [if_pos h1,if_pos (by rw [List.length_map];omega)]
     . refine hN _ _ ⟨cs.set ((i:Int) % m).toNat ((cs[((i:Int) % m).toNat]*1000003+ns[i]) % 10^Int.toNat 60),_,_,?_,by rw [List.length_set];exact hcs,rfl⟩;rw [cw,List.map_set]
   . rintro σ H2 ⟨cs,v3,v4,rfl,hcs,rfl⟩;refine ⟨_,rfl,k l cs _ hln (s1.trans (Same.new _ hl0)) ag hcs⟩
def pQ (T:Txt K mg):Sp:=fun vs H Q _=>∃ (p:Addr) (m:Int),vs=[.ref p]/\H p=some (.lst [.int m])/\∀ (v m':Int) (H':Hp),2<=v->v<=1000000->H' p=some (.lst [.int m'])->(∀ b o,H b=some o->b≠p->H' b=some o)->Q (.int v) H'
abbrev b8:Stmt:=top 29
theorem qc:FnScope ["pot","kind"] ["pot"] (af b8):=FnScope.of (by kernel_rfl)
theorem e9:NmL (af b8) "pot":=.of (by kernel_rfl)
theorem fQ:NmL (af b8) "kind":=.of (by kernel_rfl)
theorem ba:NmG (af b8) "_law_take":=.of (by kernel_rfl)
theorem wz (T:Txt K mg) (hq:bO (CXe P w)) {f:Addr} {fd:FuncData} (D:Df K mg "_law_toll" b8 ["pot"] f fd) {aJ:Addr} {aV:FuncData} (ak:Df K mg "_law_take" bi ["pot","n"] aJ aV) (G_law_take:FnOk P w K mg base (CXe P w) 1 aJ aV ["pot","n"] (dS T)):FnOk P w K mg base (CXe P w) 2 f fd ["pot"] (pQ T):=by
 refine D.F.okC qc (fun vs H Q E h=>?_) (fun cdv A outer s H vs Q E hr h=>?_)
 . obtain ⟨p,m,rfl,_⟩:=h
   rfl
 . obtain ⟨p,m,rfl,hp,k⟩:=h;refine ⟨_,(am (aw (i:=1) qc.nd rfl (Or.inl fQ.l) (au G_law_take (hr.mono (by decide)) ba.g ak.m ak.F.kp ak.b .nil (aP hq) (aa (pvl 0 e9) (aa ah aj)) (hdb:=ba.d))) (am (be (aB bA (pvl 1 fQ) ah (ay _)) (ap (aU (aq cj ah (au G_law_take (hr.mono (by decide)) ba.g ak.m ak.F.kp ak.b .nil (aP hq) (aa (pvl 0 e9) (aa ah aj)) (hdb:=ba.d))))) aG) (am (be (aB bA (pvl 1 fQ) ah (ay _)) (ap (aU (aA a6 (a9 (aa ah (aa (aq dw ah ah) aj))) (au G_law_take (hr.mono (by decide)) ba.g ak.m ak.F.kp ak.b .nil (aP hq) (aa (pvl 0 e9) (aa ah aj)) (hdb:=ba.d)) (fun _ _=>rfl)))) aG) (ap (aU (aq cj ah (au G_law_take (hr.mono (by decide)) ba.g ak.m ak.F.kp ak.b .nil (aP hq) (aa (pvl 0 e9) (aa ah aj)) (hdb:=ba.d)))))))),?_⟩;rw [show L2.start ["pot","kind"] [V.ref p]=[some (V.ref p),none] from rfl];walk_at "rd";refine ⟨p,m,9,rfl,hp,by decide,by decide,?_⟩;walk_at "rd";have k1:∀ z b o,H b=some o->b≠p->upd H p z b=some o:=fun z b o e nb=>by rw [ao nb];exact e
   have em:∀ (x n:Int),0<n->0<=x % n/\x % n<n:=fun x n h=>⟨Int.emod_nonneg x (Int.ne_of_gt h),Int.emod_lt_of_pos x h⟩;by_cases c7:m % 9=7
   . rw [if_pos c7];refine ⟨p,m / 9,999999,rfl,ag,by decide,by decide,?_⟩;rw [cw];have:=em (m / 9) 999999 (by decide);refine ⟨_,rfl,k _ _ _ (by omega) (by omega) ag (k1 _)⟩
   . rw [if_neg c7];by_cases c8:m % 9=8
     . rw [if_pos c8];refine ⟨⟨by decide,by decide,by decide⟩,aD (by simp),fun q hn=>?_⟩;have nq:q≠p:=fun z=>by rw [z,ag] at hn;cases hn
       have hq0:H q=none:=(by rw [ao nq] at hn;exact hn);have h2:=em (m / 9) 2 (by decide);refine ⟨p,m / 9,2,rfl,by rw [ao nq.symm,ag],by decide,by decide,?_⟩;have fin:∀ b o,H b=some o->b≠p->upd (upd (upd H p (.lst [.int (m / 9)])) q (.lst [.int 2,.int (10^Int.toNat 6)])) p (.lst [.int (m / 9 / 2)]) b=some o:=fun b o e nb=>by
         rw [ao nb,ao (az e hq0),ao nb];exact e
       rcases (show m / 9 % 2=0\/m / 9 % 2=1 by omega) with z|z
       . rw [z];refine ixL (by rw [ao nq,ag]) rfl ?_;exact k 2 _ _ (by decide) (by decide) ag fin
       . rw [z];refine ixL (by rw [ao nq,ag]) rfl ?_;exact k (10^Int.toNat 6) _ _ (by decide) (by decide) ag fin
     . rw [if_neg c8];refine ⟨p,m / 9,3,rfl,ag,by decide,by decide,?_⟩;rw [cw];have:=em (m / 9) 3 (by decide);refine ⟨_,rfl,k _ _ _ (by omega) (by omega) ag (k1 _)⟩
def uQ (r:Row):List V:=[.int r.k,.int r.un,.int r.t,.int r.u,.int r.sw,.int r.sp]
abbrev RowsAt (H:Hp):List Addr->List Row->Prop:=Paired fun p r=>H p=some (.tup (uQ r))
theorem RowsAt.get {H:Hp}:∀ {ps:List Addr} {rs:List Row} {i:Nat} {x:V},RowsAt H ps rs->(ps.map V.ref)[i]?=some x->∃ p r,x=.ref p/\ps[i]?=some p/\rs[i]?=some r/\H p=some (.tup (uQ r))
 | _,_,i,x,.nil,e=>by simp at e
 | _,_,0,x,.cons (a:=p) (b:=r) h hs,e=>⟨p,r,by simpa using e.symm,by simp,by simp,h⟩
 | a::l1,_,i+1,x,.cons h hs,e=>by
   have e':(List.map V.ref l1)[i]?=some x:=by simpa using e
   obtain ⟨p,r,h1,h2,h3,h4⟩:=RowsAt.get hs e';exact ⟨p,r,h1,by simpa using h2,by simpa using h3,h4⟩
theorem pR {α β:Type} {R:α->β->Prop} {a:α} {b:β} (h:R a b):∀ {l₁:List α} {l₂:List β},Paired R l₁ l₂->Paired R (l₁++[a]) (l₂++[b])
 | _,_,.nil=>.cons h .nil
 | _,_,.cons x xs=>.cons x (pR h xs)
theorem pM {α β:Type} {R:α->β->Prop}:∀ (n:Nat) {l₁:List α} {l₂:List β},Paired R l₁ l₂->Paired R (l₁.take n) (l₂.take n)
 | 0,_,_,_=>by rw [List.take_zero,List.take_zero];exact .nil
 | _+1,_,_,.nil=>.nil
 | n+1,_,_,.cons x xs=>.cons x (pM n xs)
theorem qa {α β:Type} {R:α->β->Prop}:∀ (n:Nat) {l₁:List α} {l₂:List β},Paired R l₁ l₂->Paired R (l₁.drop n) (l₂.drop n)
 | 0,_,_,h=>h
 | _+1,_,_,.nil=>.nil
 | n+1,_,_,.cons x xs=>qa n xs
theorem rV {α β:Type} {R:α->β->Prop} {k₁:List α} {k₂:List β} (h:Paired R k₁ k₂):∀ {l₁:List α} {l₂:List β},Paired R l₁ l₂->Paired R (l₁++k₁) (l₂++k₂)
 | _,_,.nil=>h
 | _,_,.cons x xs=>.cons x (rV h xs)
theorem RowsAt.snoc {H:Hp} {qs:List Addr} {rows:List Row} {q:Addr} {r:Row} (h:RowsAt H qs rows) (e:H q=some (.tup (uQ r))):RowsAt H (qs++[q]) (rows++[r]):=pR (R:=fun p r=>H p=some (.tup (uQ r))) e h
theorem RoadsAt.ins {H:Hp} {ps:List Addr} {rs:List Road} {q:Addr} {r:Road} (n:Nat) (h:RoadsAt H ps rs) (e:H q=some (.tup (bN r))):RoadsAt H (ps.take n++q::ps.drop n) (rs.take n++r::rs.drop n) :=
 rV (R:=fun p r=>H p=some (.tup (bN r))) (.cons e (qa n h)) (pM n h)
/-- what is kept while a row is drawn -/
structure Mid (H:Hp) (la ro:Addr) (ls:List Int) (qs:List Addr) (rows:List Row) (H':Hp):Prop where
 s:Same H H'
 l:H' la=some (.lst (ls.map V.int))
 r:H' ro=some (.lst (qs.map V.ref))
 w:RowsAt H' qs rows
theorem Mid.same {H:Hp} {la ro:Addr} {ls:List Int} {qs:List Addr} {rows:List Row} {H' H2:Hp} (m:Mid H la ro ls qs rows H') (e:Same H' H2):Mid H la ro ls qs rows H2 :=
 ⟨m.s.trans e,e _ _ m.l,e _ _ m.r,Paired.imp' (fun p r q=>e p _ q) m.w⟩
theorem Mid.keep {H:Hp} {la ro:Addr} {ls:List Int} {qs:List Addr} {rows:List Row} {H' H2:Hp} {p:Addr} {xs:List V} (m:Mid H la ro ls qs rows H') (hp:H p=none) (nl:p≠la) (nr:p≠ro) (hx:H' p=some (.lst xs)) (e:∀ b o,H' b=some o->b≠p->H2 b=some o):Mid H la ro ls qs rows H2 :=
 ⟨fun b o h=>e b o (m.s b o h) (az h hp),e _ _ m.l nl.symm,e _ _ m.r nr.symm,Paired.imp' (fun q r h=>e q _ h (pz h hx (by intro z;cases z))) m.w⟩
theorem cr {H:Hp} {p:Addr} (o:HO):∀ b u,H b=some u->b≠p->upd H p o b=some u:=fun b u h n=>by rw [ao n];exact h
def o2 (T:Txt K mg):Sp:=fun vs H Q _=>∃ (a:Addr) (cs:List Int) (first:Int),vs=[.ref a,.int first]/\H a=some (.lst (cs.map V.int))/\1<=cs.length/\cs.length<=24 /\
 ∀ (l:Addr) (ps:List Addr) (rs:List Road) (H':Hp),H l=none->Same H H'->H' l=some (.lst (ps.map V.ref))->RoadsAt H' ps rs->Good (cs.length:Int) rs->Q (.ref l) H'
abbrev av:Stmt:=top 30
theorem aN:FnScope ["cells","first","labels","rows","k","pot","under","there","back","roads","swap","spot","road"] ["cells","first"] (af av):=FnScope.of (by kernel_rfl)
theorem fu:NmL (af av) "cells":=.of (by kernel_rfl)
theorem fg:NmL (af av) "first":=.of (by kernel_rfl)
theorem bL:NmL (af av) "labels":=.of (by kernel_rfl)
theorem fB:NmL (af av) "rows":=.of (by kernel_rfl)
theorem aK:NmL (af av) "k":=.of (by kernel_rfl)
theorem bR:NmL (af av) "pot":=.of (by kernel_rfl)
theorem cI:NmL (af av) "under":=.of (by kernel_rfl)
theorem bS:NmL (af av) "there":=.of (by kernel_rfl)
theorem cV:NmL (af av) "back":=.of (by kernel_rfl)
theorem fb:NmL (af av) "roads":=.of (by kernel_rfl)
theorem iB:NmL (af av) "swap":=.of (by kernel_rfl)
theorem iG:NmL (af av) "spot":=.of (by kernel_rfl)
theorem fA:NmL (af av) "road":=.of (by kernel_rfl)
theorem oB:NmG (af av) "range":=.of (by kernel_rfl)
theorem fT:NmG (af av) "len":=.of (by kernel_rfl)
theorem gj:NmG (af av) "_law_stir":=.of (by kernel_rfl)
theorem aZ:NmG (af av) "_law_take":=.of (by kernel_rfl)
theorem cQ:NmG (af av) "_law_toll":=.of (by kernel_rfl)
theorem fN:NmG (af av) "int":=.of (by kernel_rfl)
theorem uP (T:Txt K mg) (hq:bO (CXe P w)) {f:Addr} {fd:FuncData} (D:Df K mg "_law_roads" av ["cells","first"] f fd) {cB:Addr} {fF:FuncData} (bW:Df K mg "_law_stir" bQ ["cell","k"] cB fF) (G_law_stir:FnOk P w K mg base (CXe P w) 1 cB fF ["cell","k"] (j3 T)) {aJ:Addr} {aV:FuncData} (ak:Df K mg "_law_take" bi ["pot","n"] aJ aV) (G_law_take:FnOk P w K mg base (CXe P w) 1 aJ aV ["pot","n"] (dS T)) {eF:Addr} {pK:FuncData} (cY:Df K mg "_law_toll" b8 ["pot"] eF pK) (G_law_toll:FnOk P w K mg base (CXe P w) 2 eF pK ["pot"] (pQ T)):FnOk P w K mg base (CXe P w) 3 f fd ["cells","first"] (o2 T):=by
 refine D.F.okC aN (fun vs H Q E h=>?_) (fun cdv A outer s H vs Q E hr h=>?_)
 . obtain ⟨a,cs,first,rfl,_⟩:=h
   rfl
 . obtain ⟨a,cs,first,rfl,ha,h1,h24,k⟩:=h;have em:∀ (x n:Int),0<n->0<=x % n/\x % n<n:=fun x n h=>⟨Int.emod_nonneg x (Int.ne_of_gt h),Int.emod_lt_of_pos x h⟩;refine ⟨_,(am (aw (i:=2) aN.nd rfl (Or.inl bL.l) (a9 aj)) (am (aw (i:=3) aN.nd rfl (Or.inl fB.l) (a9 aj)) (am (fh PassesOwn.never rfl (jP oB.g T.range (aa (aI bD fT.g T.len d8 (aa (pvl 0 fu) aj) (hn:=fT.n) (hdb:=fT.d)) aj)) (aM (i:=4) aN.nd rfl (Or.inl aK.l)) (am (aw (i:=5) aN.nd rfl (Or.inl bR.l) (a9 (aa (aA a6 (a9 (aa (aA a6 (pvl 0 fu) (pvl 4 aK) (fun _ _=>rfl)) (aa (au G_law_stir (hr.mono (by decide)) gj.g bW.m bW.F.kp bW.b .nil (aP hq) (aa (aA a6 (pvl 0 fu) (pvl 4 aK) (fun _ _=>rfl)) (aa (pvl 4 aK) aj)) (hdb:=gj.d)) aj))) (aq eO (pvl 1 fg) ah) (fun _ _=>rfl)) aj))) (am (eU (pC PySem.F.plainAttrs_list PySem.F.slot_list_insert PySem.F.type_list_insert sT (pvl 2 bL) (aa (au G_law_take (hr.mono (by decide)) aZ.g ak.m ak.F.kp ak.b .nil (aP hq) (aa (pvl 5 bR) (aa (aq cj (pvl 4 aK) ah) aj)) (hdb:=aZ.d)) (aa (pvl 4 aK) aj)))) (ap (be (aB ye (pvl 4 aK) ah (ay _)) (am (aw (i:=6) aN.nd rfl (Or.inl cI.l) (aA a6 (a9 (aa (au G_law_take (hr.mono (by decide)) aZ.g ak.m ak.F.kp ak.b .nil (aP hq) (aa (pvl 5 bR) (aa (pvl 4 aK) aj)) (hdb:=aZ.d)) (aa (aq kL (pvl 4 aK) ah) (aa ah (aa (aq pD (pvl 4 aK) ah) aj))))) (aq eO (aq pD (pvl 1 fg) ah) ah) (fun _ _=>rfl))) (am (aw (i:=7) aN.nd rfl (Or.inl bS.l) (au G_law_toll (hr.mono (by decide)) cQ.g cY.m cY.F.kp cY.b .nil (aP hq) (aa (pvl 5 bR) aj) (hdb:=cQ.d))) (am (aw (i:=8) aN.nd rfl (Or.inl cV.l) (aA a6 (a9 (aa (au G_law_toll (hr.mono (by decide)) cQ.g cY.m cY.F.kp cY.b .nil (aP hq) (aa (pvl 5 bR) aj) (hdb:=cQ.d)) (aa (pvl 7 bS) aj))) (gf sQ fN.g T.int zu (aa (g8 bA (aq eO (aq pD (pvl 1 fg) ah) ah) ah (ay _)) aj) (hn:=fN.n) (hdb:=fN.d)) (fun _ _=>rfl))) (ap (eU (pC PySem.F.plainAttrs_list PySem.F.slot_list_append PySem.F.type_list_append fm (pvl 3 fB) (aa (ck (aa (pvl 4 aK) (aa (pvl 6 cI) (aa (pvl 7 bS) (aa (pvl 8 cV) (aa (au G_law_take (hr.mono (by decide)) aZ.g ak.m ak.F.kp ak.b .nil (aP hq) (aa (pvl 5 bR) (aa ah aj)) (hdb:=aZ.d)) (aa (au G_law_take (hr.mono (by decide)) aZ.g ak.m ak.F.kp ak.b .nil (aP hq) (aa (pvl 5 bR) (aa (pvl 4 aK) aj)) (hdb:=aZ.d)) aj))))))) aj))))))) aG))))) (am (aw (i:=9) aN.nd rfl (Or.inl fb.l) (a9 aj)) (am (fh PassesOwn.never rfl (kU (pvl 3 fB)) (kC (n:=6) rfl (bn (aM (i:=4) aN.nd rfl (Or.inl aK.l)) (bn (aM (i:=6) aN.nd rfl (Or.inl cI.l)) (bn (aM (i:=7) aN.nd rfl (Or.inl bS.l)) (bn (aM (i:=8) aN.nd rfl (Or.inl cV.l)) (bn (aM (i:=10) aN.nd rfl (Or.inl iB.l)) (bn (aM (i:=11) aN.nd rfl (Or.inl iG.l)) iR))))))) (am (aw (i:=12) aN.nd rfl (Or.inl fA.l) (ck (aa (aA a6 (pvl 2 bL) (pvl 4 aK) (fun _ _=>rfl)) (aa (aA a6 (pvl 2 bL) (pvl 6 cI) (fun _ _=>rfl)) (aa (pvl 7 bS) (aa (pvl 8 cV) aj)))))) (am (be (aB bA (pvl 10 iB) ah (ay _)) (ap (aw (i:=12) aN.nd rfl (Or.inl fA.l) (ck (aa (aA a6 (pvl 2 bL) (pvl 6 cI) (fun _ _=>rfl)) (aa (aA a6 (pvl 2 bL) (pvl 4 aK) (fun _ _=>rfl)) (aa (pvl 7 bS) (aa (pvl 8 cV) aj))))))) aG) (ap (eU (pC PySem.F.plainAttrs_list PySem.F.slot_list_insert PySem.F.type_list_insert sT (pvl 9 fb) (aa (pvl 11 iG) (aa (pvl 12 fA) aj)))))))) (ap (aU (pvl 9 fb)))))))),?_⟩;rw [show L2.start ["cells","first","labels","rows","k","pot","under","there","back","roads","swap","spot","road"] [V.ref a,V.int first]=[some (V.ref a),some (V.int first),none,none,none,none,none,none,none,none,none,none,none] from rfl];walk_at "rd";refine ⟨by decide,fun la hla=>⟨by decide,fun ro hro=>?_⟩⟩;have nlr:ro≠la:=fun z=>by rw [z,ag] at hro;cases hro
   have hro0:H ro=none:=by rw [ao nlr] at hro;exact hro
   have s0:Same H (upd (upd H la (.lst [])) ro (.lst [])):=(Same.new _ hla).trans (Same.new _ hro);refine ⟨_,.inl (SqL.of (s0 _ _ ha)),by rw [List.length_map];omega,by rw [List.length_map];omega,?_⟩;rw [List.length_map,Int.toNat_natCast];refine mL (fun i σ H2=>∃ (ls:List Int) (qs:List Addr) (rows:List Row) (v4 v5 v6 v7 v8:Option V),σ=[some (V.ref a),some (V.int first),some (.ref la),some (.ref ro),v4,v5,v6,v7,v8,none,none,none,none] /\
     Mid H la ro ls qs rows H2/\Labels i ls/\Rows (i - 1) rows) ⟨[],[],[],none,none,none,none,none,rfl,⟨s0,by rw [ao nlr.symm,ag];rfl,ag,.nil⟩,Labels.nil,⟨rfl,fun i r h=>by cases h⟩⟩ ?_ ?_
   . rintro i σ H2 N hN hi ⟨ls,qs,rows,v4,v5,v6,v7,v8,rfl,M,L,R⟩;walk_at "rd";rw [Int.zero_add];have hcs:(cs.map V.int)[i]?=some (.int cs[i]):=(by rw [List.getElem?_map,List.getElem?_eq_getElem hi];rfl);refine ixL (M.s _ _ ha) (pE hcs) (ixL (M.s _ _ ha) (pE hcs) ⟨cs[i],(i:Int),rfl,by omega,by omega,fun st hst=>?_⟩);refine ⟨aD (by simp),fun q1 hq1=>?_⟩;have M1:=M.same (Same.new (.lst [.int cs[i],.int st]) hq1);refine ⟨by decide,?_⟩;obtain ⟨c0,hc0⟩:∃ c0:Int,atI [V.int cs[i],V.int st] (first % 2)=some (.int c0):=by
       rcases (show first % 2=0\/first % 2=1 by omega) with z|z
       . exact ⟨cs[i],by rw [z];rfl⟩
       . exact ⟨st,by rw [z];rfl⟩
     refine ixL ag hc0 ⟨aD (by simp),fun q2 hq2=>?_⟩;have M2:=M1.same (Same.new (.lst [.int c0]) hq2);have hq20:H q2=none:=(M1.s).free hq2;have nq2l:q2≠la:=fun z=>by rw [z,M1.l] at hq2;cases hq2
     have nq2r:q2≠ro:=fun z=>by rw [z,M1.r] at hq2;cases hq2
     generalize hH3:upd (upd H2 q1 (.lst [.int cs[i],.int st])) q2 (.lst [.int c0])=H3 at M2 ⊢;have hp3:H3 q2=some (.lst [.int c0]):=(by rw [<- hH3];exact ag);clear hH3;have pl:=em c0 ((i:Int)+1) (by omega);refine ⟨tyL M2.l,q2,c0,(i:Int)+1,rfl,hp3,by omega,by omega,?_⟩;have M3:=M2.keep hq20 nq2l nq2r hp3 (cr (.lst [.int (c0 / ((i:Int)+1))]));have hp4:upd H3 q2 (.lst [.int (c0 / ((i:Int)+1))]) q2=some (.lst [.int (c0 / ((i:Int)+1))]):=ag;generalize upd H3 q2 (.lst [.int (c0 / ((i:Int)+1))])=H4 at M3 hp4 ⊢;generalize c0 / ((i:Int)+1)=c1 at hp4;have lsl:=L.len;refine Dq M3.l pl.1 (by rw [List.length_map];omega) (eG (by rw [List.length_map];omega)) ?_;have L2':=L.put (c0 % ((i:Int)+1)).toNat (by omega);have el:(ls.map V.int).take (c0 % ((i:Int)+1)).toNat++V.int (i:Int)::(ls.map V.int).drop (c0 % ((i:Int)+1)).toNat=(ls.take (c0 % ((i:Int)+1)).toNat++(i:Int)::ls.drop (c0 % ((i:Int)+1)).toNat).map V.int:=by
       rw [List.map_append,List.map_cons,List.map_take,List.map_drop]
     rw [el];generalize ls.take (c0 % ((i:Int)+1)).toNat++(i:Int)::ls.drop (c0 % ((i:Int)+1)).toNat=ls2 at L2' ⊢;have M4:Mid H la ro ls2 qs rows (upd H4 la (.lst (ls2.map V.int))):=⟨fun b o h=>cr _ b o (M3.s b o h) (az h hla),ag,cr _ _ _ M3.r nlr,Paired.imp' (fun q r h=>cr _ _ _ h (pz h M3.l (by intro z;cases z))) M3.w⟩;have hp5:upd H4 la (.lst (ls2.map V.int)) q2=some (.lst [.int c1]):=(by rw [ao nq2l];exact hp4);generalize upd H4 la (.lst (ls2.map V.int))=H5 at M4 hp5 ⊢;by_cases c:(0:Int)<(i:Int)
     . rw [if_pos c];refine ⟨q2,c1,(i:Int),rfl,hp5,c,by omega,?_⟩;have pu:=em c1 (i:Int) c;have M5:=M4.keep hq20 nq2l nq2r hp5 (cr (.lst [.int (c1 / (i:Int))]));have hp6:upd H5 q2 (.lst [.int (c1 / (i:Int))]) q2=some (.lst [.int (c1 / (i:Int))]):=ag;generalize upd H5 q2 (.lst [.int (c1 / (i:Int))])=H6 at M5 hp6 ⊢;generalize c1 / (i:Int)=c2 at hp6;refine ⟨⟨by decide,by decide⟩,aD (by simp),fun q3 hq3=>?_⟩;have M6:=M5.same (Same.new (.lst [.int (c1 % (i:Int)),.int ((i:Int) - 1),.int 0,.int ((i:Int) / 2)]) hq3);have hp7:=Same.new (.lst [.int (c1 % (i:Int)),.int ((i:Int) - 1),.int 0,.int ((i:Int) / 2)]) hq3 _ _ hp6;refine ⟨⟨by decide,by decide⟩,by decide,?_⟩;obtain ⟨un,hun,u0,u1⟩:∃ un:Int,atI [V.int (c1 % (i:Int)),V.int ((i:Int) - 1),V.int 0,V.int ((i:Int) / 2)] (first / 2 % 4)=some (.int un)/\0<=un/\un<i:=by
         rcases (show first / 2 % 4=0\/first / 2 % 4=1\/first / 2 % 4=2\/first / 2 % 4=3 by omega) with z|z|z|z
         . exact ⟨_,by rw [z];rfl,pu.1,pu.2⟩
         . exact ⟨_,by rw [z];rfl,by omega,by omega⟩
         . exact ⟨_,by rw [z];rfl,by omega,by omega⟩
         . exact ⟨_,by rw [z];rfl,by omega,by omega⟩
       refine ixL ag hun ?_;generalize upd H6 q3 (.lst [.int (c1 % (i:Int)),.int ((i:Int) - 1),.int 0,.int ((i:Int) / 2)])=H7 at M6 hp7 ⊢;refine ⟨q2,c2,rfl,hp7,fun th c3 H8 t0 t1 hp8 k8=>?_⟩;have M7:=M6.keep hq20 nq2l nq2r hp7 k8;refine ⟨q2,c3,rfl,hp8,fun bk c4 H9 b0 b1 hp9 k9=>?_⟩;have M8:=M7.keep hq20 nq2l nq2r hp8 k9;refine ⟨aD (by simp),fun q4 hq4=>?_⟩;have M9:=M8.same (Same.new (.lst [.int bk,.int th]) hq4);have hp10:=Same.new (.lst [.int bk,.int th]) hq4 _ _ hp9;refine ⟨⟨by decide,by decide⟩,by decide,.inr ?_⟩;obtain ⟨bk2,hbk,b02,b12⟩:∃ bk2:Int,atI [V.int bk,V.int th] (if first / 8 % 3=1 then 1 else 0)=some (.int bk2)/\2<=bk2/\bk2<=1000000:=by
         by_cases z:first / 8 % 3=1
         . exact ⟨th,by rw [if_pos z];rfl,t0,t1⟩
         . exact ⟨bk,by rw [if_neg z];rfl,b0,b1⟩
       refine ixL ag hbk ?_;generalize upd H9 q4 (.lst [.int bk,.int th])=H10 at M9 hp10 ⊢;refine ⟨tyL M9.r,q2,c4,2,rfl,hp10,by decide,by decide,?_⟩;have M10:=M9.keep hq20 nq2l nq2r hp10 (cr (.lst [.int (c4 / 2)]));have hp11:upd H10 q2 (.lst [.int (c4 / 2)]) q2=some (.lst [.int (c4 / 2)]):=ag;generalize upd H10 q2 (.lst [.int (c4 / 2)])=H11 at M10 hp11 ⊢;refine ⟨q2,c4 / 2,(i:Int),rfl,hp11,c,by omega,?_⟩;have ps:=em (c4 / 2) (i:Int) c;have M11:=M10.keep hq20 nq2l nq2r hp11 (cr (.lst [.int (c4 / 2 / (i:Int))]));generalize upd H11 q2 (.lst [.int (c4 / 2 / (i:Int))])=H12 at M11 ⊢;refine ⟨aD (by simp),fun q5 hq5=>?_⟩;have qsl:qs.length=rows.length:=Paired.length M11.w;have rl:=R.len;have M12:=M11.same (Same.new (.tup [.int (i:Int),.int un,.int th,.int bk2,.int (c4 % 2),.int (c4 / 2 % (i:Int))]) hq5);refine vb M12.r (eG (by rw [List.length_map];omega)) (hN _ _ ⟨ls2,qs++[q5],rows++[⟨(i:Int),un,th,bk2,c4 % 2,c4 / 2 % (i:Int)⟩],_,_,_,_,_,rfl,?_,L2',?_⟩)
       . refine ⟨fun b o h=>cr _ b o (M12.s b o h) (az h hro0),cr _ _ _ M12.l nlr.symm,by rw [ag,List.map_append];rfl,?_⟩;refine RowsAt.snoc (Paired.imp' (fun q r h=>cr _ _ _ h (pz h M12.r (by intro z;cases z))) M12.w) (cr _ _ _ ag fun z=>?_);rw [z,M11.r] at hq5;cases hq5
       . refine ⟨by rw [List.length_append,rl];simp;omega,fun j r hj=>?_⟩;by_cases hjl:j<rows.length
         . rw [List.getElem?_append_left hjl] at hj;exact R.ok j r hj
         . have hj2:j=rows.length:=by
             have:=(List.getElem?_eq_some_iff.mp hj).1;rw [List.length_append] at this;simp at this;omega
           rw [hj2,List.getElem?_append_right (Nat.le_refl _),Nat.sub_self] at hj;cases hj;exact ⟨by show (i:Int)=_;omega,⟨u0,u1,t0,t1,b02,b12,ps.1,ps.2⟩⟩
     . rw [if_neg c];refine hN _ _ ⟨ls2,qs,rows,_,_,v6,v7,v8,rfl,M4,L2',?_⟩;have z:i=0:=(by omega);subst z;exact R
   . rintro σ H2 ⟨ls,qs,rows,v4,v5,v6,v7,v8,rfl,M,L,R⟩;walk_at "rd";refine ⟨by decide,fun lo hlo=>⟨⟨_,SqL.of (Same.new _ hlo _ _ M.r)⟩,?_⟩⟩;have hlo0:H lo=none:=M.s.free hlo;have nla:lo≠la:=fun z=>by rw [z,M.l] at hlo;cases hlo
     have nlro:lo≠ro:=fun z=>by rw [z,M.r] at hlo;cases hlo
     have M0:=M.same (Same.new (.lst []) hlo);have qsl:qs.length=rows.length:=Paired.length M.w;have rl:=R.len;refine jO (K:=K) (xs:=qs.map V.ref) (fun i σ H3=>∃ (ps:List Addr) (rs:List Road) (w4 w6 w7 w8 w10 w11 w12:Option V),σ=[some (V.ref a),some (V.int first),some (.ref la),some (.ref ro),w4,v5,w6,w7,w8,some (.ref lo),w10,w11,w12] /\
       Mid H la ro ls qs rows H3/\H3 lo=some (.lst (ps.map V.ref))/\RoadsAt H3 ps rs/\Put ls (rows.take i) rs) ⟨[],[],_,_,_,_,_,_,_,rfl,M0,ag,.nil,Put.nil ls⟩ (fun i σ H3 _ ⟨_,_,_,_,_,_,_,_,_,_,m,_⟩=>SqL.of m.r) ?_ ?_
     . rintro i x σ H3 N hN hi ⟨ps,rs,w4,w6,w7,w8,w10,w11,w12,rfl,M3,hl3,ro3,P⟩;obtain ⟨q,r,rfl,e1,e2,e3⟩:=M3.w.get hi;obtain ⟨rk,ok⟩:=R.ok i r e2;have hil:i<rows.length:=(List.getElem?_eq_some_iff.mp e2).1;have et:rows.take (i+1)=rows.take i++[r]:=(by rw [List.take_succ,e2];rfl);have u0:=ok.u0;have u1:=ok.u1;have sp0:=ok.s0;have sp1:=ok.s1;have pl:=P.len;rw [List.length_take] at pl;have psl:ps.length=rs.length:=Paired.length ro3;walk_at "rd";refine ⟨uQ r,SqT.of e3,rfl,.int r.k,_,rfl,.int r.un,_,rfl,.int r.t,_,rfl,.int r.u,_,rfl,.int r.sw,_,rfl,.int r.sp,_,rfl,rfl,?_⟩;have gk:atI (ls.map V.int) r.k=some (.int (ls.getD r.k.toNat 0)):=gY (by omega) (by rw [List.getElem?_map,iQ L (by omega)];rfl);have gu:atI (ls.map V.int) r.un=some (.int (ls.getD r.un.toNat 0)):=gY u0 (by rw [List.getElem?_map,iQ L (by omega)];rfl);refine ixL M3.l gk (ixL M3.l gu ⟨aD (by simp),fun q1 hq1=>?_⟩);have M4:=M3.same (Same.new (.tup [.int (ls.getD r.k.toNat 0),.int (ls.getD r.un.toNat 0),.int r.t,.int r.u]) hq1);have hl4:=Same.new (.tup [.int (ls.getD r.k.toNat 0),.int (ls.getD r.un.toNat 0),.int r.t,.int r.u]) hq1 _ _ hl3;have ro4:=RoadsAt.same (Same.new (.tup [.int (ls.getD r.k.toNat 0),.int (ls.getD r.un.toNat 0),.int r.t,.int r.u]) hq1) ro3;have hq4:upd H3 q1 (.tup [.int (ls.getD r.k.toNat 0),.int (ls.getD r.un.toNat 0),.int r.t,.int r.u]) q1=some (.tup [.int (ls.getD r.k.toNat 0),.int (ls.getD r.un.toNat 0),.int r.t,.int r.u]):=ag;generalize upd H3 q1 (.tup [.int (ls.getD r.k.toNat 0),.int (ls.getD r.un.toNat 0),.int r.t,.int r.u])=H4 at M4 hl4 ro4 hq4 ⊢;have put:∀ (H5:Hp) (q5:Addr) (w4 w6 w7 w8 w10 w11 w12:Option V),Mid H la ro ls qs rows H5->H5 lo=some (.lst (ps.map V.ref))->RoadsAt H5 ps rs->H5 q5=some (.tup (bN (gw ls r))) ->
           tyV K "list" (V.ref lo) H5/\rInsert (V.ref lo) [V.int r.sp,V.ref q5] H5 fun _ H6=>N [some (V.ref a),some (V.int first),some (.ref la),some (.ref ro),w4,v5,w6,w7,w8,some (.ref lo),w10,w11,w12] H6:=by
         intro H5 q5 w4 w6 w7 w8 w10 w11 w12 M5 hl5 ro5 hq5;refine ⟨tyL hl5,Dq hl5 sp0 (by rw [List.length_map];omega) (eG (by rw [List.length_map];omega)) (hN _ _ ⟨ps.take r.sp.toNat++q5::ps.drop r.sp.toNat,rs.take r.sp.toNat++gw ls r::rs.drop r.sp.toNat,_,_,_,_,_,_,_,rfl,?_,?_,?_,?_⟩)⟩
         . exact M5.keep hlo0 nla nlro hl5 (cr _)
         . rw [ag,List.map_append,List.map_cons,List.map_take,List.map_drop]
         . have kp:∀ q r',H5 q=some (.tup (bN r'))->upd H5 lo (.lst ((ps.map V.ref).take r.sp.toNat++V.ref q5::(ps.map V.ref).drop r.sp.toNat)) q=some (.tup (bN r')):=fun q _ h=>cr _ _ _ h (pz h hl5 (by intro z;cases z));exact RoadsAt.ins _ (Paired.imp' kp ro5) (kp _ _ hq5)
         . rw [et];exact P.step r r.sp.toNat
       walk_at "rd";by_cases csw:r.sw=1
       . rw [if_pos csw];refine ixL M4.l gu (ixL M4.l gk ⟨aD (by simp),fun q2 hq2=>?_⟩);refine put _ q2 _ _ _ _ _ _ _ (M4.same (Same.new _ hq2)) (Same.new _ hq2 _ _ hl4) (RoadsAt.same (Same.new _ hq2) ro4) ?_;rw [ag];unfold gw;rw [if_pos csw];rfl
       . rw [if_neg csw];refine put _ q1 _ _ _ _ _ _ _ M4 hl4 ro4 ?_;rw [hq4];unfold gw;rw [if_neg csw];rfl
     . rintro σ H3 ⟨ps,rs,w4,w6,w7,w8,w10,w11,w12,rfl,M3,hl3,ro3,P⟩;rw [List.length_map,qsl,List.take_length] at P;exact ⟨_,rfl,k lo ps rs H3 hlo0 M3.s hl3 ro3 (CI h1 h24 L R P)⟩
def rR (T:Txt K mg):Sp:=fun vs H Q _=>∃ (a z:Addr) (ns ss:List Int),vs=[.ref a,.ref z]/\SqL K H a (ns.map V.int)/\ns.length<=63/\H z=some (.lst (ss.map V.int))/\1<=ss.length/\ss.length<=100/\(∀ m∈ss,1<=m/\m<=24) /\
 ∀ (t l:Addr) (m:Int) (ps:List Addr) (rs:List Road) (H':Hp),m∈ss->H t=none->H l=none->Same H H'->H' t=some (.tup [.int m,.ref l])->H' l=some (.lst (ps.map V.ref))->RoadsAt H' ps rs->Good m rs->Q (.ref t) H'
abbrev bu:Stmt:=top 31
theorem mC:FnScope ["script","sizes","first","many"] ["script","sizes"] (af bu):=FnScope.of (by kernel_rfl)
theorem iC:NmL (af bu) "script":=.of (by kernel_rfl)
theorem fK:NmL (af bu) "sizes":=.of (by kernel_rfl)
theorem fW:NmL (af bu) "first":=.of (by kernel_rfl)
theorem gp:NmL (af bu) "many":=.of (by kernel_rfl)
theorem gS:NmG (af bu) "_law_cell":=.of (by kernel_rfl)
theorem dl:NmG (af bu) "len":=.of (by kernel_rfl)
theorem gG:NmG (af bu) "_law_roads":=.of (by kernel_rfl)
theorem gK:NmG (af bu) "_law_cells":=.of (by kernel_rfl)
theorem yc (T:Txt K mg) (hq:bO (CXe P w)) {f:Addr} {fd:FuncData} (D:Df K mg "_law_web" bu ["script","sizes"] f fd) {eE:Addr} {pV:FuncData} (fy:Df K mg "_law_cell" bX ["script","k"] eE pV) (G_law_cell:FnOk P w K mg base (CXe P w) 1 eE pV ["script","k"] (pU T)) {dY:Addr} {oU:FuncData} (eV:Df K mg "_law_cells" bf ["script","many"] dY oU) (G_law_cells:FnOk P w K mg base (CXe P w) 1 dY oU ["script","many"] (ph T)) {dQ:Addr} {nR:FuncData} (eR:Df K mg "_law_roads" av ["cells","first"] dQ nR) (G_law_roads:FnOk P w K mg base (CXe P w) 3 dQ nR ["cells","first"] (o2 T)):FnOk P w K mg base (CXe P w) 4 f fd ["script","sizes"] (rR T):=by
 refine D.F.okC mC (fun vs H Q E h=>?_) (fun cdv A outer s H vs Q E hr h=>?_)
 . obtain ⟨a,z,ns,ss,rfl,_⟩:=h
   rfl
 . obtain ⟨a,z,ns,ss,rfl,ha,hn,hz,h1,h2,hs,k⟩:=h;refine ⟨_,(am (aw (i:=2) mC.nd rfl (Or.inl fW.l) (au G_law_cell (hr.mono (by decide)) gS.g fy.m fy.F.kp fy.b .nil (aP hq) (aa (pvl 0 iC) (aa ah aj)) (hdb:=gS.d))) (am (aw (i:=3) mC.nd rfl (Or.inl gp.l) (aA a6 (pvl 1 fK) (aq eO (pvl 2 fW) (aI bD dl.g T.len d8 (aa (pvl 1 fK) aj) (hn:=dl.n) (hdb:=dl.d))) (fun _ _=>rfl))) (ap (aU (ck (aa (pvl 3 gp) (aa (au G_law_roads (hr.mono (by decide)) gG.g eR.m eR.F.kp eR.b .nil (aP hq) (aa (au G_law_cells (hr.mono (by decide)) gK.g eV.m eV.F.kp eV.b .nil (aP hq) (aa (pvl 0 iC) (aa (pvl 3 gp) aj)) (hdb:=gK.d)) (aa (aq pD (pvl 2 fW) (aI bD dl.g T.len d8 (aa (pvl 1 fK) aj) (hn:=dl.n) (hdb:=dl.d))) aj)) (hdb:=gG.d)) aj))))))),?_⟩;rw [show L2.start ["script","sizes","first","many"] [V.ref a,V.ref z]=[some (V.ref a),some (V.ref z),none,none] from rfl];walk_at "rd";refine ⟨a,ns,0,rfl,ha,by decide,fun v v0 v1=>?_⟩;walk_at "rd";refine ⟨_,.inl (SqL.of hz),?_⟩;rw [List.length_map];have p0:=Int.emod_nonneg v (show (ss.length:Int)≠0 by omega);have p1:=Int.emod_lt_of_pos v (show 0<(ss.length:Int) by omega);have hlt:(v % (ss.length:Int)).toNat<ss.length:=by omega
   refine ⟨by omega,?_⟩;refine ixL hz (gY p0 (v:=.int ss[(v % (ss.length:Int)).toNat]) (by rw [List.getElem?_map,List.getElem?_eq_getElem hlt];rfl)) ?_;have hm:=hs _ (List.getElem_mem hlt);have hmem:=List.getElem_mem hlt;generalize ss[(v % (ss.length:Int)).toNat]=m at hm hmem ⊢;refine ⟨a,ns,m,rfl,ha,by omega,hm.1,by omega,fun c cs H1 hc s1 hc1 cl=>?_⟩;walk_at "rd";refine ⟨_,.inl (SqL.of (s1 _ _ hz)),?_⟩;rw [List.length_map];refine ⟨⟨by omega,by omega⟩,?_⟩;refine ⟨c,cs,_,rfl,hc1,by omega,by omega,fun l ps rs H2 hl s2 hl2 ro g=>?_⟩;rw [cl] at g;refine ⟨aD (by simp),fun t ht=>?_⟩;have s3:=Same.new (.tup [.int m,.ref l]) ht;exact k t l m ps rs _ hmem ((s1.trans s2).free ht) (s1.free hl) (s1.trans (s2.trans s3)) ag (s3 _ _ hl2) (RoadsAt.same s3 ro) g
/-- what _law_marks tells of an error of the class at C -/
def gl (T:Txt K mg) (C:Addr):List Bool:=[decide (T.NoPlace=C),decide (T.NoRoad=C),decide (T.BadWeb=C),decide (T.BadLaying=C),decide (T.BadWish=C),decide (T.BadStep=C),decide (T.TooMany=C),decide (T.NoNumber=C),decide (T.NoWorst=C),decide (T.NoDeed=C),decide (T.BadText=C),true]
/-- the row of marks of the refusal with the number n -/
def i9 (n:Int):List Bool:=(List.range 12).map fun (k:Nat)=>decide ((k:Int)=n) || decide ((k:Int)=11)
theorem CP (T:Txt K mg):gl T T.NoPlace=i9 0:=by
 have nd:=T.ndx;rw [show i9 0=[true,false,false,false,false,false,false,false,false,false,false,true] from by decide];simp only [List.nodup_cons,List.mem_cons,not_or,List.not_mem_nil,not_false_iff,and_true] at nd;simp [gl,nd,Ne.symm,eq_comm]
theorem Dv (T:Txt K mg):gl T T.NoRoad=i9 1:=by
 have nd:=T.ndx;rw [show i9 1=[false,true,false,false,false,false,false,false,false,false,false,true] from by decide];simp only [List.nodup_cons,List.mem_cons,not_or,List.not_mem_nil,not_false_iff,and_true] at nd;simp [gl,nd,Ne.symm,eq_comm]
def pi (T:Txt K mg):Sp:=fun vs H Q _=>∃ (ea C:Addr) (od:Option Addr),vs=[.ref ea]/\H ea=some (ExO ea (.ref C) od)/\XDict H od/\XErr K T.TollError C/\∀ l H',H l=none->Same H H'->H' l=some (.lst ((gl T C).map V.bl))->Q (.ref l) H'
abbrev ax:Stmt:=top 32
theorem jt:FnScope ["e","marks"] ["e"] (af ax):=FnScope.of (by kernel_rfl)
theorem a8:NmL (af ax) "e":=.of (by kernel_rfl)
theorem dD:NmL (af ax) "marks":=.of (by kernel_rfl)
theorem al:NmG (af ax) "isinstance":=.of (by kernel_rfl)
theorem lG:NmG (af ax) "NoPlace":=.of (by kernel_rfl)
theorem nN:NmG (af ax) "NoRoad":=.of (by kernel_rfl)
theorem nM:NmG (af ax) "BadWeb":=.of (by kernel_rfl)
theorem j9:NmG (af ax) "BadLaying":=.of (by kernel_rfl)
theorem kY:NmG (af ax) "BadWish":=.of (by kernel_rfl)
theorem m5:NmG (af ax) "BadStep":=.of (by kernel_rfl)
theorem lv:NmG (af ax) "TooMany":=.of (by kernel_rfl)
theorem kQ:NmG (af ax) "NoNumber":=.of (by kernel_rfl)
theorem lZ:NmG (af ax) "NoWorst":=.of (by kernel_rfl)
theorem nO:NmG (af ax) "NoDeed":=.of (by kernel_rfl)
theorem lX:NmG (af ax) "BadText":=.of (by kernel_rfl)
theorem dz:NmG (af ax) "ValueError":=.of (by kernel_rfl)
theorem uE (T:Txt K mg) (hq:bO (CXe P w)) {f:Addr} {fd:FuncData} (D:Df K mg "_law_marks" ax ["e"] f fd):FnOkH P w K mg base 1 f fd ["e"] (pi T):=by
 refine D.F.okH jt (fun vs H Q E h=>?_) (fun cdv A outer s H vs Q E hr h=>?_)
 . obtain ⟨ea,C,od,rfl,_⟩:=h
   rfl
 . obtain ⟨ea,C,od,rfl,he,hd,xe,k⟩:=h;refine ⟨_,(am (aw (i:=1) jt.nd rfl (Or.inl dD.l) (a9 (aa (aI cT al.g T.isinstance bj (aa (pvl 0 a8) (aa (dA (v:=.ref T.NoPlace) lG.g T.zm rfl) aj)) (hn:=al.n) (hdb:=al.d)) (aa (aI cT al.g T.isinstance bj (aa (pvl 0 a8) (aa (dA (v:=.ref T.NoRoad) nN.g T.Bd rfl) aj)) (hn:=al.n) (hdb:=al.d)) (aa (aI cT al.g T.isinstance bj (aa (pvl 0 a8) (aa (dA (v:=.ref T.BadWeb) nM.g T.fP rfl) aj)) (hn:=al.n) (hdb:=al.d)) (aa (aI cT al.g T.isinstance bj (aa (pvl 0 a8) (aa (dA (v:=.ref T.BadLaying) j9.g T.vC rfl) aj)) (hn:=al.n) (hdb:=al.d)) aj)))))) (am (aw (i:=1) jt.nd rfl (Or.inl dD.l) (aq gM (pvl 1 dD) (a9 (aa (aI cT al.g T.isinstance bj (aa (pvl 0 a8) (aa (dA (v:=.ref T.BadWish) kY.g T.yZ rfl) aj)) (hn:=al.n) (hdb:=al.d)) (aa (aI cT al.g T.isinstance bj (aa (pvl 0 a8) (aa (dA (v:=.ref T.BadStep) m5.g T.zv rfl) aj)) (hn:=al.n) (hdb:=al.d)) (aa (aI cT al.g T.isinstance bj (aa (pvl 0 a8) (aa (dA (v:=.ref T.TooMany) lv.g T.yR rfl) aj)) (hn:=al.n) (hdb:=al.d)) (aa (aI cT al.g T.isinstance bj (aa (pvl 0 a8) (aa (dA (v:=.ref T.NoNumber) kQ.g T.xp rfl) aj)) (hn:=al.n) (hdb:=al.d)) aj))))))) (ap (aU (aq gM (pvl 1 dD) (a9 (aa (aI cT al.g T.isinstance bj (aa (pvl 0 a8) (aa (dA (v:=.ref T.NoWorst) lZ.g T.zG rfl) aj)) (hn:=al.n) (hdb:=al.d)) (aa (aI cT al.g T.isinstance bj (aa (pvl 0 a8) (aa (dA (v:=.ref T.NoDeed) nO.g T.BO rfl) aj)) (hn:=al.n) (hdb:=al.d)) (aa (aI cT al.g T.isinstance bj (aa (pvl 0 a8) (aa (dA (v:=.ref T.BadText) lX.g T.y0 rfl) aj)) (hn:=al.n) (hdb:=al.d)) (aa (aI cT al.g T.isinstance bj (aa (pvl 0 a8) (aa (Cp (v:=.ty "ValueError") dz.g T.ValueError tS rfl (hn:=dz.n) (hd:=dz.d)) aj)) (hn:=al.n) (hdb:=al.d)) aj)))))))))),?_⟩;rw [show L2.start ["e","marks"] [V.ref ea]=[some (V.ref ea),none] from rfl];walk_at "rd";have ne:∀ {C:Addr},C∈[T.NoPlace,T.NoRoad,T.BadWeb,T.BadLaying,T.BadWish,T.BadStep,T.TooMany,T.NoNumber,T.NoWorst,T.NoDeed,T.BadText]->C≠T.TollError:=fun {C} h z=>by
     have nd:=T.ndx;rw [z] at h;simp only [List.nodup_cons] at nd;refine nd.1 ?_;simp only [List.mem_cons,List.not_mem_nil,or_false] at h ⊢;rcases h with h|h|h|h|h|h|h|h|h|h|h <;> simp [h]
   refine d7 he hd xe T.yB (ne (by simp)) (d7 he hd xe T.A2 (ne (by simp)) (d7 he hd xe T.qv (ne (by simp)) (d7 he hd xe T.vB (ne (by simp)) ⟨aD (by simp),fun p1 n1=>?_⟩)));have s1:=Same.new (.lst [V.bl (decide (T.NoPlace=C)),V.bl (decide (T.NoRoad=C)),V.bl (decide (T.BadWeb=C)),V.bl (decide (T.BadLaying=C))]) n1;refine d7 (s1 _ _ he) (hd.same s1) xe T.yD (ne (by simp)) (d7 (s1 _ _ he) (hd.same s1) xe T.yG (ne (by simp)) (d7 (s1 _ _ he) (hd.same s1) xe T.yT (ne (by simp)) (d7 (s1 _ _ he) (hd.same s1) xe T.xS (ne (by simp)) ⟨aD (by simp),fun p2 n2=>?_⟩)));have s2:=s1.trans (Same.new (.lst [V.bl (decide (T.BadWish=C)),V.bl (decide (T.BadStep=C)),V.bl (decide (T.TooMany=C)),V.bl (decide (T.NoNumber=C))]) n2);refine DP (Same.new _ n2 _ _ ag) ag (aD (by simp)) fun p3 n3=>?_;walk_at "rd";have s3:=s2.trans (Same.new (.lst ([V.bl (decide (T.NoPlace=C)),V.bl (decide (T.NoRoad=C)),V.bl (decide (T.BadWeb=C)),V.bl (decide (T.BadLaying=C))]++[V.bl (decide (T.BadWish=C)),V.bl (decide (T.BadStep=C)),V.bl (decide (T.TooMany=C)),V.bl (decide (T.NoNumber=C))])) n3);refine d7 (s3 _ _ he) (hd.same s3) xe T.zr (ne (by simp)) (d7 (s3 _ _ he) (hd.same s3) xe T.zT (ne (by simp)) (d7 (s3 _ _ he) (hd.same s3) xe T.y3 (ne (by simp)) (CJ (s3 _ _ he) (hd.same s3) xe ⟨aD (by simp),fun p4 n4=>?_⟩)));refine DP (Same.new _ n4 _ _ ag) ag (aD (by simp)) fun p5 n5=>?_;exact k p5 _ ((s3.trans (Same.new _ n4)).free n5) ((s3.trans (Same.new _ n4)).trans (Same.new _ n5)) ag
theorem vh (T:Txt K mg):gl T T.BadWeb=i9 2:=by
 have nd:=T.ndx;rw [show i9 2=[false,false,true,false,false,false,false,false,false,false,false,true] from by decide];simp only [List.nodup_cons,List.mem_cons,not_or,List.not_mem_nil,not_false_iff,and_true] at nd;simp [gl,nd,Ne.symm,eq_comm]
theorem qk {H:Hp}:∀ bs:List Bool,DeepAll K H (bs.map V.bl) (bs.map PyData.bool)
 | []=>.nil
 | b::bs=>.cons (.bl b) (qk bs)
theorem wW:∀ bs cs:List Bool,PyData.eqvAll (bs.map PyData.bool) (cs.map PyData.bool)=decide (bs=cs)
 | [],[]=>by simp [PyData.eqvAll]
 | [],c::cs=>by simp [PyData.eqvAll]
 | b::bs,[]=>by simp [PyData.eqvAll]
 | b::bs,c::cs=>by
   simp only [List.map_cons,PyData.eqvAll];rw [wW bs cs];cases b <;> cases c <;> simp [PyData.eqv]
theorem sY:∀ bs:List Bool,PyData.depthAll (bs.map PyData.bool)<=1
 | []=>by simp [PyData.depthAll]
 | b::bs=>by
   simp only [List.map_cons,PyData.depthAll];have:=sY bs;have:(PyData.bool b).depth<=1:=by simp [PyData.depth]
   omega
def qg (T:Txt K mg):Sp:=fun vs H Q _=>∃ (l:Addr) (m:Int) (ps:List Addr) (rs:List Road),vs=[.int m,.ref l]/\H l=some (.lst (ps.map V.ref))/\RoadsAt H ps rs/\rs.length<=1000/\(Good m rs->∀ H',Same H H'->Q (.str "made") H')/\(¬ Good m rs->∀ H',Same H H'->Q (.str "refused") H')
abbrev aY:Stmt:=top 38
theorem eT:FnScope ["many","roads","word","handed","e"] ["many","roads"] (af aY):=FnScope.of (by kernel_rfl)
theorem qm:NmL (af aY) "many":=.of (by kernel_rfl)
theorem iE:NmL (af aY) "roads":=.of (by kernel_rfl)
theorem eB:NmL (af aY) "word":=.of (by kernel_rfl)
theorem fe:NmL (af aY) "handed":=.of (by kernel_rfl)
theorem nD:NmL (af aY) "e":=.of (by kernel_rfl)
theorem fL:NmG (af aY) "list":=.of (by kernel_rfl)
theorem jM:NmG (af aY) "Web":=.of (by kernel_rfl)
theorem fZ:NmG (af aY) "TollError":=.of (by kernel_rfl)
theorem gi:NmG (af aY) "_law_marks":=.of (by kernel_rfl)
theorem pI:NmG (af aY) "range":=.of (by kernel_rfl)
theorem vR (T:Txt K mg) (hq:bO (CXe P w)) {f:Addr} {fd:FuncData} (D:Df K mg "_law_word" aY ["many","roads"] f fd) {f_Web___init__:Addr} {gI:FuncData} (F_Web___init__:Fun K "__init__" "Web.__init__" aE f_Web___init__ gI) (b_Web:Binds K gI ["self","many","roads"] []) (ya:Mk K T.Web f_Web___init__) (G_Web_init:FnOk P w K mg base (CXe P w) 3 f_Web___init__ gI ["self","many","roads"] (jI T)) {dW:Addr} {oq:FuncData} (eS:Df K mg "_law_marks" ax ["e"] dW oq) (G_law_marks:FnOkH P w K mg base 1 dW oq ["e"] (pi T)):FnOk P w K mg base (CXe P w) 5 f fd ["many","roads"] (qg T):=by
 refine D.F.okC eT (fun vs H Q E h=>?_) (fun cdv A outer s H vs Q E hr h=>?_)
 . obtain ⟨l,m,ps,rs,rfl,_⟩:=h
   rfl
 . obtain ⟨l,m,ps,rs,rfl,hl,ro,rl,k,kn⟩:=h;have hlen:ps.length=rs.length:=Paired.length ro;have hv:=hr.units;refine ⟨_,(am (aw (i:=2) eT.nd rfl (Or.inl eB.l) dI) (am (aw (i:=3) eT.nd rfl (Or.inl fe.l) (gf pj fL.g T.list xi (aa (pvl 1 iE) aj) (hn:=fL.n) (hdb:=fL.d))) (am (Dd rfl rfl rfl (BQ (Bt (Ae ya G_Web_init (hr.mono (by decide)) jM.g T.Ea b_Web .nil (aa (pvl 0 qm) (aa (pvl 3 fe) aj)) (hdb:=jM.d)))) (DS (i:=4) T.wB.x fZ.g T.wI eT.nd rfl nD.l (fun eaH=>(am (aw (i:=2) eT.nd rfl (Or.inl eB.l) dI) (ap (be (aB (DE hv) (A3 G_law_marks (RoomH.mark (Room.h (hr.mono (by decide))) _) gi.g eS.m eS.F.kp eS.b (aa (pvl 4 nD) aj) (hdb:=gi.d)) (Bl rfl (qC (Nc:=["k"]) 1 (by decide +kernel) (by decide +kernel) rfl (by decide +kernel) rfl) (xX (ea:=eaH) pI.g T.range (aa ah aj)) (fun _ _ _ _=>(aM (i:=0) (show (["k"]:List Str).Nodup from by decide +kernel) rfl (Or.inl rfl))) (fun _ _ _ _=>sJ) (fun _ _ _ _=>(D9 (g8 bA (pv 0) ah (ay _)) (zl (g8 bA (pv 0) ah (ay _)))))) (ay _)) (ap (aw (i:=2) eT.nd rfl (Or.inl eB.l) dI)) aG)))) C2 (hdb:=fZ.d))) (am (be (aB (DB hv) (pvl 3 fe) (pvl 1 iE) (ay _)) (ap (aU dI)) aG) (ap (aU (pvl 2 eB))))))),?_⟩;rw [show L2.start ["many","roads","word","handed","e"] [V.int m,V.ref l]=[some (V.int m),some (V.ref l),none,none,none] from rfl];refine bZ fun N1 h1=>?_;walk_at "rd";refine h1 _ _ (bZ fun N2 h2=>?_);walk_at "rd";refine ⟨_,.inl (SqL.of hl),fun h nh=>?_⟩;have s1:=Same.new (.lst (ps.map V.ref)) nh;have e1:upd H h (.lst (ps.map V.ref)) h=some (.lst (ps.map V.ref)):=ag;generalize upd H h (.lst (ps.map V.ref))=H1 at s1 e1 ⊢;refine h2 _ _ (bZ fun N3 h3=>?_);have dU:∀ (wd:Str) (H':Hp),Same H1 H'->Q (.str wd) H'->N3 [some (V.int m),some (V.ref l),some (V.str wd),some (V.ref h),none] H':=fun wd H' s' q=>by
     refine h3 _ _ ?_;walk_at "rd";have ro':=RoadsAt.same (s1.trans s') ro;refine ⟨_,_,.lst (SqL.of (s' _ _ e1)) (qz ro'),.lst (SqL.of ((s1.trans s') _ _ hl)) (qz ro'),?_,?_⟩
     . simp only [PyData.depth];have:=sO rs;omega
     . simp only [PyData.eqv];rw [xf];exact ⟨false,rfl,by rw [if_neg (by decide)];exact q⟩
   unfold AO za zH;walk_at "rd";intro x dx nx nd ne;have gX:upd (upd H1 dx (HO.own x)) x (HO.ins T.Web dx []) x=some (.ins T.Web dx []):=ag;have s2:Same H1 (upd (upd H1 dx (HO.own x)) x (HO.ins T.Web dx [])):=(Same.new _ nd).put nx _;generalize upd (upd H1 dx (HO.own x)) x (HO.ins T.Web dx [])=H2 at gX s2 ⊢;have s02:=s1.trans s2;refine ⟨x,dx,m,true,h,ps,rs,rfl,gX,SqL.of (s2 _ _ e1),RoadsAt.same s02 ro,rl,fun g t H' _ _ kp=>⟨rfl,dU _ _ (fun b o eb=>kp b o (s2 _ _ eb) (az eb nx)) (k g _ (s1.trans fun b o eb=>kp b o (s2 _ _ eb) (az eb nx)))⟩,fun ng H3 s3=>⟨T.BadWeb,rfl,true,by rw [T.qv.mr];simp,?_⟩⟩;rw [if_pos rfl];intro ea na;have s4:=Same.new (ExO ea (.ref T.BadWeb) none) na;refine ⟨ea,T.BadWeb,none,rfl,ag,trivial,T.qv,fun l1 H5 n1 s5 h1=>⟨by decide,by decide,fun l2 n2=>?_⟩⟩;have ea5:=s5 _ _ (ag (H:=H3) (a:=ea) (o:=ExO ea (.ref T.BadWeb) none));have sx:Same H1 H5:=s2.trans (s3.trans (s4.trans s5));refine we (lo:=0) (n:=Int.toNat 12) (fun i bs σ H6=>H6=upd H5 l2 (.lst bs)/\bs=((List.range i).map fun (k:Nat)=>decide ((k:Int)=2) || decide ((k:Int)=11)).map V.bl/\∃ v,σ=[v]) ⟨rfl,rfl,_,rfl⟩ ?_ ?_
   . rintro i bs σ H6 N hN hi ⟨rfl,rfl,v,rfl⟩;have hi':i<12:=hi;walk_at "rd";have ez:(0:Int)+(i:Int)=(i:Int):=(by omega);have er:((List.range (i+1)).map fun (k:Nat)=>decide ((k:Int)=2) || decide ((k:Int)=11)).map V.bl=((List.range i).map fun (k:Nat)=>decide ((k:Int)=2) || decide ((k:Int)=11)).map V.bl++[V.bl (decide ((i:Int)=2) || decide ((i:Int)=11))]:=by
       rw [List.range_succ,List.map_append,List.map_append]
       rfl
     rw [ez];by_cases c:(i:Int)=2
     . rw [if_pos c];exact ⟨ag,eG (by simp;omega),hN _ _ _ ⟨by rw [cw],by rw [er];simp [c],_,rfl⟩⟩
     . rw [if_neg c];exact ⟨ag,eG (by simp;omega),hN _ _ _ ⟨by rw [cw],by rw [er];simp [c],_,rfl⟩⟩
   . rintro bs σ H6 ⟨rfl,rfl,v,rfl⟩;have s6:=Same.new (.lst (((List.range (Int.toNat 12)).map fun (k:Nat)=>decide ((k:Int)=2) || decide ((k:Int)=11)).map V.bl)) n2;refine ⟨⟨_,_,s6 _ _ ea5⟩,?_⟩;refine ⟨_,_,.lst (SqL.of (s6 _ _ h1)) (qk _),.lst (SqL.of ag) (qk _),by simp only [PyData.depth];have:=sY (gl T T.BadWeb);omega,?_⟩;simp only [PyData.eqv];rw [wW,vh];have:i9 2=(List.range (Int.toNat 12)).map fun (k:Nat)=>decide ((k:Int)=2) || decide ((k:Int)=11):=rfl
     rw [this,decide_eq_true rfl];refine ⟨true,rfl,?_⟩;rw [if_pos rfl];exact dU _ _ (sx.trans s6) (kn ng _ (s1.trans (sx.trans s6)))
/-- the roads of a path -/
def rE (k:Nat):Road:=⟨(k:Int)+1,k,2,1000000⟩
theorem zf:Good 24 ((List.range 23).map rE):=by
 refine ⟨by decide,by decide,by decide,fun r hr=>?_,fun S s0 hS v v0 v1=>?_⟩
 . obtain ⟨k,hk,rfl⟩:=List.mem_map.mp hr;have:=List.mem_range.mp hk;refine ⟨?_,?_,?_,?_,?_,?_,?_,?_,?_⟩ <;> simp only [rE] <;> omega
 . have all:∀ k:Nat,k<24->S (k:Int):=fun k=>by
     induction k with
     | zero=>intro _;exact s0
     | succ k ih=>intro hk;exact (hS (rE k) (List.mem_map.mpr ⟨k,List.mem_range.mpr (by omega),rfl⟩)).mpr (ih (by omega))
   have:=all v.toNat (by omega)
   rwa [Int.toNat_of_nonneg v0] at this
def ua (K:PySem.W.Frag):Sp:=fun vs H Q _=>∃ (a:Addr) (ns:List Int),vs=[.ref a]/\SqL K H a (ns.map V.int)/\ns.length<=63/\∀ H',Q (.bl true) H'
def Dw (T:Txt K mg):Sp:=ua K
abbrev bB:Stmt:=top 39
theorem gL:FnScope ["script","many","roads","k","cell","pot","found","some","row"] ["script"] (af bB):=FnScope.of (by kernel_rfl)
theorem nG:NmL (af bB) "script":=.of (by kernel_rfl)
theorem qe:NmL (af bB) "many":=.of (by kernel_rfl)
theorem oX:NmL (af bB) "roads":=.of (by kernel_rfl)
theorem qu:NmL (af bB) "k":=.of (by kernel_rfl)
theorem kh:NmL (af bB) "cell":=.of (by kernel_rfl)
theorem qT:NmL (af bB) "pot":=.of (by kernel_rfl)
theorem ji:NmL (af bB) "found":=.of (by kernel_rfl)
theorem ko:NmL (af bB) "some":=.of (by kernel_rfl)
theorem mQ:NmL (af bB) "row":=.of (by kernel_rfl)
theorem kI:NmG (af bB) "_law_web":=.of (by kernel_rfl)
theorem qB:NmG (af bB) "enumerate":=.of (by kernel_rfl)
theorem jR:NmG (af bB) "_law_stir":=.of (by kernel_rfl)
theorem ii:NmG (af bB) "_law_spoiled":=.of (by kernel_rfl)
theorem cM:NmG (af bB) "_law_word":=.of (by kernel_rfl)
theorem jU:NmG (af bB) "list":=.of (by kernel_rfl)
theorem mz:NmG (af bB) "int":=.of (by kernel_rfl)
theorem jS:NmG (af bB) "_law_good":=.of (by kernel_rfl)
theorem ug:NmG (af bB) "range":=.of (by kernel_rfl)
theorem De (T:Txt K mg) (hq:bO (CXe P w)) {f:Addr} {fd:FuncData} (D:Df K mg "law" bB ["script"] f fd) {eD:Addr} {pX:FuncData} (fv:Df K mg "_law_good" aO ["many","roads"] eD pX) (G_law_good:FnOk P w K mg base (CXe P w) 1 eD pX ["many","roads"] (qi T)) {cU:Addr} {kK:FuncData} (dB:Df K mg "_law_spoiled" aR ["many","roads","pot"] cU kK) (G_law_spoiled:FnOk P w K mg base (CXe P w) 4 cU kK ["many","roads","pot"] (kW T)) {cB:Addr} {fF:FuncData} (bW:Df K mg "_law_stir" bQ ["cell","k"] cB fF) (G_law_stir:FnOk P w K mg base (CXe P w) 1 cB fF ["cell","k"] (j3 T)) {ft:Addr} {rp:FuncData} (gb:Df K mg "_law_web" bu ["script","sizes"] ft rp) (G_law_web:FnOk P w K mg base (CXe P w) 4 ft rp ["script","sizes"] (rR T)) {eJ:Addr} {pL:FuncData} (bP:Df K mg "_law_word" aY ["many","roads"] eJ pL) (G_law_word:FnOk P w K mg base (CXe P w) 5 eJ pL ["many","roads"] (qg T)):FnOk P w K mg base (CXe P w) 6 f fd ["script"] (Dw T):=by
 refine D.F.okC gL (fun vs H Q E h=>?_) (fun cdv A outer s H vs Q E hr h=>?_)
 . obtain ⟨a,ns,rfl,_⟩:=h
   rfl
 . obtain ⟨a,ns,rfl,ha,hn,k⟩:=h;have hv:=hr.units;refine ⟨_,(am (qH (au G_law_web (hr.mono (by decide)) kI.g gb.m gb.F.kp gb.b .nil (aP hq) (aa (pvl 0 nG) (aa (a9 (aa ah (aa ah (aa ah (aa ah (aa ah (aa ah (aa ah (aa ah aj))))))))) aj)) (hdb:=kI.d)) (kC (n:=2) rfl (bn (aM (i:=1) gL.nd rfl (Or.inl qe.l)) (bn (aM (i:=2) gL.nd rfl (Or.inl oX.l)) iR)))) (am (fh PassesOwn.never rfl (Cw true qB.g T.enumerate (aq gM (a9 (aa ah aj)) (fo fY (pvl 0 nG) f9 (f8 ah)))) (kC (n:=2) rfl (bn (aM (i:=3) gL.nd rfl (Or.inl qu.l)) (bn (aM (i:=4) gL.nd rfl (Or.inl kh.l)) iR))) (am (aw (i:=5) gL.nd rfl (Or.inl qT.l) (a9 (aa (aA a6 (a9 (aa (aq eO (pvl 4 kh) (aq dw ah ah)) (aa (au G_law_stir (hr.mono (by decide)) jR.g bW.m bW.F.kp bW.b .nil (aP hq) (aa (pvl 4 kh) (aa (aq cj ah (pvl 3 qu)) aj)) (hdb:=jR.d)) aj))) (aq eO (pvl 3 qu) ah) (fun _ _=>rfl)) aj))) (am (qH (au G_law_spoiled (hr.mono (by decide)) ii.g dB.m dB.F.kp dB.b .nil (aP hq) (aa (pvl 1 qe) (aa (pvl 2 oX) (aa (pvl 5 qT) aj))) (hdb:=ii.d)) (kC (n:=2) rfl (bn (aM (i:=6) gL.nd rfl (Or.inl ji.l)) (bn (aM (i:=7) gL.nd rfl (Or.inl ko.l)) iR)))) (ap (be (aB ud (au G_law_word (hr.mono (by decide)) cM.g bP.m bP.F.kp bP.b .nil (aP hq) (aa (pvl 6 ji) (aa (gf pj jU.g T.list xi (aa (pvl 7 ko) aj) (hn:=jU.n) (hdb:=jU.d)) aj)) (hdb:=cM.d)) (aA a6 (a9 (aa dI (aa dI aj))) (gf sQ mz.g T.int zu (aa (au G_law_good (hr.mono (by decide)) jS.g fv.m fv.F.kp fv.b .nil (aP hq) (aa (pvl 6 ji) (aa (pvl 7 ko) aj)) (hdb:=jS.d)) aj) (hn:=mz.n) (hdb:=mz.d)) (fun _ _=>rfl)) (ay _)) (ap (aU iL)) aG))))) (am (yt (i:=8) gL.nd rfl mQ.l rfl (qC (Nc:=["place"]) 1 (by decide +kernel) (by decide +kernel) rfl (by decide +kernel) rfl) (jP ug.g T.range (aa ah aj)) (fun _ _ _ _=>(aM (i:=0) (show (["place"]:List Str).Nodup from by decide +kernel) rfl (Or.inl rfl))) (fun _ _ _ _=>sJ) (fun _ _ _ _=>(ck (aa (aq cj (pv 0) ah) (aa (pv 0) (aa ah (aa (aq dw ah ah) aj))))))) (ap (aU (Dz (g8 bA (au G_law_word (hr.mono (by decide)) cM.g bP.m bP.F.kp bP.b .nil (aP hq) (aa ah (aa (fo fY (pvl 8 mQ) f9 (f8 ah)) aj)) (hdb:=cM.d)) dI (ay _)) (zl (g8 bA (au G_law_word (hr.mono (by decide)) cM.g bP.m bP.F.kp bP.b .nil (aP hq) (aa ah (aa (pvl 8 mQ) aj)) (hdb:=cM.d)) dI (ay _))))))))),?_⟩;rw [show L2.start ["script","many","roads","k","cell","pot","found","some","row"] [V.ref a]=[some (V.ref a),none,none,none,none,none,none,none,none] from rfl];unfold tSl qL tNoPart;refine bZ fun N1 h1=>?_;walk_at "rd";refine ⟨aD (by simp),fun z nz=>?_⟩;have s0:=Same.new (.lst [V.int 3,V.int 5,V.int 2,V.int 7,V.int 4,V.int 6,V.int 1,V.int 9]) nz;refine ⟨a,z,ns,[3,5,2,7,4,6,1,9],rfl,Same.seq s0 ha,hn,ag,by simp,by simp,by decide,fun t l m ps rs H1 _ nt nl s1 et el ro g=>?_⟩;have s01:=s0.trans s1;clear s0 nz;refine ⟨t,rfl,_,SqT.of et,rfl,_,_,rfl,_,_,rfl,rfl,h1 _ _ (bZ fun N2 h2=>?_)⟩;walk_at "rd";refine ⟨aD (by simp),fun q0 n0=>?_⟩;have u0:=Same.new (.lst [V.int 0]) n0;refine ⟨a,_,rfl,Same.seq (s01.trans u0) ha,fun q1 n1=>?_⟩;rw [yH _ (by decide),<- List.map_take];have u1:=Same.new (.lst ((ns.take (Int.toNat 20)).map V.int)) n1;refine ⟨q0,q1,_,_,rfl,rfl,u1 _ _ ag,ag,aD (by simp;omega),fun lc nlc=>?_⟩;have u2:=Same.new (.lst ([V.int 0]++(ns.take (Int.toNat 20)).map V.int)) nlc;have ec:upd (upd (upd H1 q0 (.lst [V.int 0])) q1 (.lst ((ns.take (Int.toNat 20)).map V.int))) lc (.lst ([V.int 0]++(ns.take (Int.toNat 20)).map V.int)) lc=some (.lst (((0:Int)::ns.take (Int.toNat 20)).map V.int)):=ag;have u:=u0.trans (u1.trans u2);generalize upd (upd (upd H1 q0 (.lst [V.int 0])) q1 (.lst ((ns.take (Int.toNat 20)).map V.int))) lc (.lst ([V.int 0]++(ns.take (Int.toNat 20)).map V.int))=H2 at u ec ⊢;have cl:((0:Int)::ns.take (Int.toNat 20)).length<=21:=by rw [List.length_cons,List.length_take];omega
   generalize (0:Int)::ns.take (Int.toNat 20)=cs at ec cl ⊢;have el2:=u _ _ el;have ro2:=RoadsAt.same u ro;clear u0 u1 u2 n0 n1 nlc u;refine ⟨lc,rfl,⟨_,SqL.of ec⟩,?_⟩;refine zK (K:=K) (c:=true) (xs:=cs.map V.int) (fun i σ H3=>Same H2 H3/\∃ v3 v4 v5 v6 v7 v8,σ=[some (V.ref a),some (V.int m),some (V.ref l),v3,v4,v5,v6,v7,v8]) ⟨Same.refl _,_,_,_,_,_,_,rfl⟩ (fun i σ H3 z=>SqL.of (z.1 _ _ ec)) ?_ ?_
   . rintro i x σ H3 pq N hN hx ⟨s3,v3,v4,v5,v6,v7,v8,rfl⟩ npq;rw [List.getElem?_map] at hx;obtain ⟨c,gc,rfl⟩:=Option.map_eq_some_iff.mp hx;have il:=(List.getElem?_eq_some_iff.mp gc).1;have s4:=s3.trans (Same.new (.tup [V.int (i:Int),V.int c]) npq);refine Ef (SqT.of ag) ?_;generalize upd H3 pq (.tup [V.int (i:Int),V.int c])=H4 at s4 ⊢;simp only [List.set_cons_zero,List.set_cons_succ];refine bZ fun M1 k1=>?_;walk_at "rd";refine ⟨⟨by decide,by decide,by decide⟩,by decide,c,70+(i:Int),rfl,by omega,by omega,fun v v0=>⟨aD (by simp),fun p1 n1=>⟨by decide,?_⟩⟩⟩;obtain ⟨m0,hm0⟩:∃ m0:Int,atI [V.int (c % 10^Int.toNat 60),V.int v] ((i:Int) % 2)=some (.int m0):=by
       rcases (show (i:Int) % 2=0\/(i:Int) % 2=1 by omega) with z|z <;> rw [z] <;> exact ⟨_,rfl⟩
     refine ixL ag hm0 ⟨aD (by simp),fun pt npt=>?_⟩;have s5:=s4.trans (Same.new (.lst [V.int (c % 10^Int.toNat 60),V.int v]) n1);generalize upd H4 p1 (.lst [V.int (c % 10^Int.toNat 60),V.int v])=H5 at s5 npt ⊢;have fr2:=s5.free npt;have s6:=s5.trans (Same.new (.lst [V.int m0]) npt);have e6:upd H5 pt (.lst [V.int m0]) pt=some (.lst [V.int m0]):=ag;generalize upd H5 pt (.lst [V.int m0])=H6 at s6 e6 ⊢;refine k1 _ _ (bZ fun M2 k2=>?_);walk_at "rd";refine ⟨l,pt,ps,rs,m,m0,rfl,e6,s6 _ _ el2,az el2 fr2,RoadsAt.same s6 ro2,by have:=g.len;have:=g.m24;omega,g.m1,g.m24,fun t2 l' m' ps' rs' H7 b7 nl' et' el' ro' len'=>?_⟩;have s7:Same H2 H7:=fun b o eb=>b7 _ _ (s6 _ _ eb) (az eb fr2);refine ⟨t2,rfl,_,SqT.of et',rfl,_,_,rfl,_,_,rfl,rfl,k2 _ _ ?_⟩;walk_at "rd";refine ⟨_,.inl (SqL.of el'),fun l3 n3=>?_⟩;have s8:=Same.new (.lst (ps'.map V.ref)) n3;have e8:upd H7 l3 (.lst (ps'.map V.ref)) l3=some (.lst (ps'.map V.ref)):=ag;generalize upd H7 l3 (.lst (ps'.map V.ref))=H8 at s8 e8 ⊢;by_cases gd:Good m' rs'
     . refine ⟨l3,m',ps',rs',rfl,e8,RoadsAt.same s8 ro',by omega,fun _ H9 s9=>⟨aD (by simp),fun p9 n9=>?_⟩,fun z=>absurd gd z⟩;have s10:=Same.new (.lst [V.str "refused",V.str "made"]) n9;refine ⟨l',m',ps',rs',rfl,s10 _ _ (s9 _ _ (s8 _ _ el')),RoadsAt.same (s8.trans (s9.trans s10)) ro',by omega,fun _ H11 s11=>.inr ⟨true,rfl,?_⟩,fun z=>absurd gd z⟩;rw [if_pos rfl];refine ixL (s11 _ _ ag) rfl ⟨rfl,?_⟩;rw [if_neg (fun z=>z rfl)];exact hN _ _ ⟨s7.trans (s8.trans (s9.trans (s10.trans s11))),_,_,_,_,_,_,rfl⟩
     . refine ⟨l3,m',ps',rs',rfl,e8,RoadsAt.same s8 ro',by omega,fun z=>absurd z gd,fun _ H9 s9=>⟨aD (by simp),fun p9 n9=>?_⟩⟩;have s10:=Same.new (.lst [V.str "refused",V.str "made"]) n9;refine ⟨l',m',ps',rs',rfl,s10 _ _ (s9 _ _ (s8 _ _ el')),RoadsAt.same (s8.trans (s9.trans s10)) ro',by omega,fun z=>absurd z gd,fun _ H11 s11=>.inr ⟨false,rfl,?_⟩⟩;rw [if_neg (by decide)];refine ixL (s11 _ _ ag) rfl ⟨rfl,?_⟩;rw [if_neg (fun z=>z rfl)];exact hN _ _ ⟨s7.trans (s8.trans (s9.trans (s10.trans s11))),_,_,_,_,_,_,rfl⟩
   . rintro σ H3 ⟨s3,v3,v4,v5,v6,v7,v8,rfl⟩;refine h2 _ _ (bZ fun N3 h3=>?_);walk_at "rd";refine ⟨by decide,by decide,fun p np=>?_⟩;refine xF (lo:=0) (n:=Int.toNat 24) (fun i bs σ H4=>Same H3 H4/\H4 p=some (.lst bs)/\(∃ qs,bs=qs.map V.ref/\RoadsAt H4 qs ((List.range i).map rE))/\∃ v,σ=[v]) ⟨Same.new _ np,ag,⟨[],rfl,.nil⟩,_,rfl⟩ ?_ ?_
     . rintro i bs σ H4 N hN hi ⟨s4,e4,⟨qs,rfl,rq⟩,v,rfl⟩;have hi':i<24:=hi;have ql:qs.length=i:=(by rw [Paired.length rq,List.length_map,List.length_range]);walk_at "rd";refine ⟨⟨by decide,by decide,by decide⟩,aD (by simp),fun q nq=>?_⟩;have nqp:p≠q:=fun z=>by rw [<- z,e4] at nq;cases nq
       refine ⟨by rw [ao nqp];exact e4,eG (by rw [List.length_map];omega),hN _ _ _ ⟨(s4.trans (Same.new _ nq)).put np _,ag,⟨qs++[q],by rw [List.map_append];rfl,?_⟩,_,rfl⟩⟩;rw [List.range_succ,List.map_append];refine wV ?_ (Paired.imp' (fun q' r x=>?_) rq)
       . rw [ao nqp.symm,ag];exact congrArg (fun z:Int=>some (HO.tup [V.int (z+1),V.int z,V.int 2,V.int 1000000])) (Int.zero_add (i:Int))
       . rw [ao (fun z=>by rw [z,e4] at x;cases x),ao (az x nq)];exact x
     . rintro bs σ H4 ⟨s4,e4,⟨qs,rfl,rq⟩,v,rfl⟩;refine h3 _ _ ?_;walk_at "rd";refine ⟨p,_,rfl,SqL.of e4,fun p5 n5=>?_⟩;rw [yH _ (by decide),<- List.map_take];have s5:=Same.new (.lst ((qs.take (Int.toNat 23)).map V.ref)) n5;have e5:upd H4 p5 (.lst ((qs.take (Int.toNat 23)).map V.ref)) p5=some (.lst ((qs.take (Int.toNat 23)).map V.ref)):=ag;generalize upd H4 p5 (.lst ((qs.take (Int.toNat 23)).map V.ref))=H5 at s5 e5 ⊢;have r5:RoadsAt H5 (qs.take (Int.toNat 23)) ((List.range 23).map rE):=by
         have:=sG (Int.toNat 23) (RoadsAt.same s5 rq);rw [<- List.map_take,show (List.range (Int.toNat 24)).take (Int.toNat 23)=List.range 23 from by decide] at this;exact this
       refine ⟨p5,24,_,_,rfl,e5,r5,by simp,fun _ H6 s6=>⟨rfl,?_⟩,fun z=>absurd zf z⟩;rw [if_pos rfl];refine ⟨p,25,qs,_,rfl,s6 _ _ (s5 _ _ e4),RoadsAt.same (s5.trans s6) rq,by simp,fun z=>absurd z.m24 (by decide),fun _ H7 s7=>⟨rfl,?_⟩⟩;rw [decide_eq_true rfl];exact k _
end
theorem EC:bO CX0:=fun _ _ _ _ _ h=>h
theorem all_mk {l:PySem.W.OpenLaw} {w:World} {K:PySem.W.Frag} {h:Heap} {mg:Str->Option Value} {fa:Addr} {aH:Addr} {du:Addr} {di:Addr} {dN:Addr} {bT:Addr} {dg:Addr} {db:Addr} {cC:Addr} {df:Addr} {dX:Addr} {dc:Addr} {dh:Addr} {gB:Addr} {xc_TollError:Value} {xd_TollError:Option Addr} {xk_TollError:ClassData} {xs_TollError:Array (Option Value)} {xc_BadWeb:Value} {xd_BadWeb:Option Addr} {xk_BadWeb:ClassData} {xs_BadWeb:Array (Option Value)} {qn_BadWeb qq_BadWeb:Str} {qN_BadWeb:Addr} {qb_BadWeb qm_BadWeb:List Value} {qh_BadWeb:Bool} {qs_BadWeb:List Str} {qu_BadWeb:List Value} {qa_BadWeb:Bool} {qc_BadWeb:Option Bool} {qd_BadWeb:Option Addr} {q0_BadWeb q1_BadWeb q2_BadWeb q3_BadWeb q5_BadWeb:Option Value} {xc_NoPlace:Value} {xd_NoPlace:Option Addr} {xk_NoPlace:ClassData} {xs_NoPlace:Array (Option Value)} {xc_NoRoad:Value} {xd_NoRoad:Option Addr} {xk_NoRoad:ClassData} {xs_NoRoad:Array (Option Value)} {xc_BadLaying:Value} {xd_BadLaying:Option Addr} {xk_BadLaying:ClassData} {xs_BadLaying:Array (Option Value)} {xc_BadWish:Value} {xd_BadWish:Option Addr} {xk_BadWish:ClassData} {xs_BadWish:Array (Option Value)} {xc_TooMany:Value} {xd_TooMany:Option Addr} {xk_TooMany:ClassData} {xs_TooMany:Array (Option Value)} {xc_NoNumber:Value} {xd_NoNumber:Option Addr} {xk_NoNumber:ClassData} {xs_NoNumber:Array (Option Value)} {xc_NoWorst:Value} {xd_NoWorst:Option Addr} {xk_NoWorst:ClassData} {xs_NoWorst:Array (Option Value)} {xc_NoDeed:Value} {xd_NoDeed:Option Addr} {xk_NoDeed:ClassData} {xs_NoDeed:Array (Option Value)} {xc_BadStep:Value} {xd_BadStep:Option Addr} {xk_BadStep:ClassData} {xs_BadStep:Array (Option Value)} {xc_BadText:Value} {xd_BadText:Option Addr} {xk_BadText:ClassData} {xs_BadText:Array (Option Value)} {cz:Addr} {od_check_counts rM:Option Addr} {rH:Array (Option Value)} {oc_check_counts rN rf qX jG rL:Value} {eM:Addr} {od_is_place wF:Option Addr} {ww:Array (Option Value)} {oc_is_place vJ wc wp qb wR:Value} {dv:Addr} {od_check_ends tZ:Option Addr} {tG:Array (Option Value)} {oc_check_ends tR tV tI nC tN:Value} {dq:Addr} {od_other_ends tH:Option Addr} {tW:Array (Option Value)} {oc_other_ends tQ tU tJ nI tL:Value} {cm:Addr} {od_check_joined rF:Option Addr} {rY:Array (Option Value)} {oc_check_joined qP qK rG jH rn:Value} {cS:Addr} {od_check_tolls sC:Option Addr} {sE:Array (Option Value)} {oc_check_tolls sD si sq kN sB:Value} {f_Web___init__:Addr} {od_Web___init__ qZ:Option Addr} {rZ:Array (Option Value)} {oc_Web___init__ rJ qJ qN jL qY:Value} {eD:Addr} {od_law_good wq:Option Addr} {wQ:Array (Option Value)} {oc_law_good wm vX wy pO wg:Value} {aJ:Addr} {od_law_take wa:Option Addr} {vM:Array (Option Value)} {oc_law_take wN wE wC qf wL:Value} {dP:Addr} {od_law_costs uF:Option Addr} {ve:Array (Option Value)} {oc_law_costs uT uH uR oG vm:Value} {eI:Addr} {od_law_ends vG:Option Addr} {vU:Array (Option Value)} {oc_law_ends wv wH vI p8 wf:Value} {fc:Addr} {od_law_put yr:Option Addr} {yd:Array (Option Value)} {oc_law_put xo xr xq qV yg:Value} {cU:Addr} {od_law_spoiled su:Option Addr} {sr:Array (Option Value)} {oc_law_spoiled se sA sM kR sk:Value} {cB:Addr} {od_law_stir vw:Option Addr} {vD:Array (Option Value)} {oc_law_stir wn vY vx pZ wo:Value} {eE:Addr} {od_law_cell wt:Option Addr} {vO:Array (Option Value)} {oc_law_cell wu wG wK pP wO:Value} {dY:Addr} {od_law_cells um:Option Addr} {uy:Array (Option Value)} {oc_law_cells u9 vc uL nX uG:Value} {eF:Addr} {od_law_toll vQ:Option Addr} {wP:Array (Option Value)} {oc_law_toll vH vE vV qd wA:Value} {dQ:Addr} {od_law_roads uJ:Option Addr} {uh:Array (Option Value)} {oc_law_roads vg uA uZ pf va:Value} {ft:Addr} {od_law_web xz:Option Addr} {xY:Array (Option Value)} {oc_law_web xH xW xO rO xC:Value} {dW:Addr} {od_law_marks uX:Option Addr} {vd:Array (Option Value)} {oc_law_marks uC vo vn oA vp:Value} {eJ:Addr} {od_law_word vK:Option Addr} {wM:Array (Option Value)} {oc_law_word wD vT wb pY vW:Value} {yn:Addr} {od_law yA:Option Addr} {DW:Array (Option Value)} {oc_law yS yQ yU ul zq:Value} {t_MOST_PLACES:Tok} {t_LEAST_TOLL:Tok} {t_MOST_TOLL:Tok} (X:K.In h) (G:h.Ns mainGlobals mg) (hfa:mg "law"=some (.ref fa))
   (je:PySem.W.nsIn K mainGlobals "TollError"=some (some (.ref aH)))
   (nP:PySem.W.nsIn K mainGlobals "BadWeb"=some (some (.ref du)))
   (mj:PySem.W.nsIn K mainGlobals "NoPlace"=some (some (.ref di)))
   (oO:PySem.W.nsIn K mainGlobals "NoRoad"=some (some (.ref dN)))
   (iW:PySem.W.nsIn K mainGlobals "BadLaying"=some (some (.ref bT)))
   (ml:PySem.W.nsIn K mainGlobals "BadWish"=some (some (.ref dg)))
   (lA:PySem.W.nsIn K mainGlobals "TooMany"=some (some (.ref db)))
   (kq:PySem.W.nsIn K mainGlobals "NoNumber"=some (some (.ref cC)))
   (mV:PySem.W.nsIn K mainGlobals "NoWorst"=some (some (.ref df)))
   (pb:PySem.W.nsIn K mainGlobals "NoDeed"=some (some (.ref dX)))
   (lY:PySem.W.nsIn K mainGlobals "BadStep"=some (some (.ref dc)))
   (lV:PySem.W.nsIn K mainGlobals "BadText"=some (some (.ref dh)))
   (uO:PySem.W.nsIn K mainGlobals "Web"=some (some (.ref gB)))
   (jv:K.lookup aH=some ⟨xc_TollError,xd_TollError,.cls xk_TollError,xs_TollError⟩)
   (jg:xk_TollError.mro=.ref aH::bmV)
   (jw:PySem.W.typeIn K (.ref aH)=some (.type "type"))
   (iX:PySem.W.findIn K (.ref aH) "__getattribute__"=some (some (.builtin "BaseException.__getattribute__")))
   (ja:PySem.W.findIn K (.ref aH) "__getattr__"=some none)
   (iV:PySem.W.findIn K (.ref aH) "__class__"=some (some (.builtin "object.__class__")))
   (jy:PySem.W.hasDictIn K aH=true)
   (jD:K.lookup du=some ⟨xc_BadWeb,xd_BadWeb,.cls xk_BadWeb,xs_BadWeb⟩)
   (om:xk_BadWeb.mro=.ref du::.ref aH::bmV)
   (oY:PySem.W.typeIn K (.ref du)=some (.type "type"))
   (oM:PySem.W.findIn K (.ref du) "__getattribute__"=some (some (.builtin "BaseException.__getattribute__")))
   (oQ:PySem.W.findIn K (.ref du) "__getattr__"=some none)
   (ou:PySem.W.findIn K (.ref du) "__class__"=some (some (.builtin "object.__class__")))
   (on:PySem.W.hasDictIn K du=true)
   (oj:(⟨xc_BadWeb,xd_BadWeb,.cls xk_BadWeb,xs_BadWeb⟩:Obj)=excClassObj qn_BadWeb qq_BadWeb du qN_BadWeb qb_BadWeb qm_BadWeb qh_BadWeb qs_BadWeb qu_BadWeb qa_BadWeb qc_BadWeb qd_BadWeb q0_BadWeb q1_BadWeb q2_BadWeb q3_BadWeb q5_BadWeb "ValueError.__new__")
   (oz:PySem.W.nsOkIn K qN_BadWeb=true)
   (ol:PySem.W.nsIn K qN_BadWeb "__init__"=some none)
   (oI:PySem.W.tailIn K bmV qm_BadWeb=true)
   (ms:K.lookup di=some ⟨xc_NoPlace,xd_NoPlace,.cls xk_NoPlace,xs_NoPlace⟩)
   (lx:xk_NoPlace.mro=.ref di::.ref aH::bmV)
   (ma:PySem.W.typeIn K (.ref di)=some (.type "type"))
   (mY:PySem.W.findIn K (.ref di) "__getattribute__"=some (some (.builtin "BaseException.__getattribute__")))
   (kZ:PySem.W.findIn K (.ref di) "__getattr__"=some none)
   (mm:PySem.W.findIn K (.ref di) "__class__"=some (some (.builtin "object.__class__")))
   (lI:PySem.W.hasDictIn K di=true)
   (o7:K.lookup dN=some ⟨xc_NoRoad,xd_NoRoad,.cls xk_NoRoad,xs_NoRoad⟩)
   (oP:xk_NoRoad.mro=.ref dN::.ref aH::bmV)
   (pd:PySem.W.typeIn K (.ref dN)=some (.type "type"))
   (oE:PySem.W.findIn K (.ref dN) "__getattribute__"=some (some (.builtin "BaseException.__getattribute__")))
   (oZ:PySem.W.findIn K (.ref dN) "__getattr__"=some none)
   (nV:PySem.W.findIn K (.ref dN) "__class__"=some (some (.builtin "object.__class__")))
   (oN:PySem.W.hasDictIn K dN=true)
   (jp:K.lookup bT=some ⟨xc_BadLaying,xd_BadLaying,.cls xk_BadLaying,xs_BadLaying⟩)
   (jB:xk_BadLaying.mro=.ref bT::.ref aH::bmV)
   (jl:PySem.W.typeIn K (.ref bT)=some (.type "type"))
   (jj:PySem.W.findIn K (.ref bT) "__getattribute__"=some (some (.builtin "BaseException.__getattribute__")))
   (iY:PySem.W.findIn K (.ref bT) "__getattr__"=some none)
   (jc:PySem.W.findIn K (.ref bT) "__class__"=some (some (.builtin "object.__class__")))
   (jz:PySem.W.hasDictIn K bT=true)
   (l0:K.lookup dg=some ⟨xc_BadWish,xd_BadWish,.cls xk_BadWish,xs_BadWish⟩)
   (mD:xk_BadWish.mro=.ref dg::.ref aH::bmV)
   (mK:PySem.W.typeIn K (.ref dg)=some (.type "type"))
   (mH:PySem.W.findIn K (.ref dg) "__getattribute__"=some (some (.builtin "BaseException.__getattribute__")))
   (md:PySem.W.findIn K (.ref dg) "__getattr__"=some none)
   (lz:PySem.W.findIn K (.ref dg) "__class__"=some (some (.builtin "object.__class__")))
   (mh:PySem.W.hasDictIn K dg=true)
   (mT:K.lookup db=some ⟨xc_TooMany,xd_TooMany,.cls xk_TooMany,xs_TooMany⟩)
   (l5:xk_TooMany.mro=.ref db::.ref aH::bmV)
   (lF:PySem.W.typeIn K (.ref db)=some (.type "type"))
   (li:PySem.W.findIn K (.ref db) "__getattribute__"=some (some (.builtin "BaseException.__getattribute__")))
   (mB:PySem.W.findIn K (.ref db) "__getattr__"=some none)
   (ni:PySem.W.findIn K (.ref db) "__class__"=some (some (.builtin "object.__class__")))
   (lj:PySem.W.hasDictIn K db=true)
   (ky:K.lookup cC=some ⟨xc_NoNumber,xd_NoNumber,.cls xk_NoNumber,xs_NoNumber⟩)
   (kc:xk_NoNumber.mro=.ref cC::.ref aH::bmV)
   (kb:PySem.W.typeIn K (.ref cC)=some (.type "type"))
   (ka:PySem.W.findIn K (.ref cC) "__getattribute__"=some (some (.builtin "BaseException.__getattribute__")))
   (km:PySem.W.findIn K (.ref cC) "__getattr__"=some none)
   (j6:PySem.W.findIn K (.ref cC) "__class__"=some (some (.builtin "object.__class__")))
   (kd:PySem.W.hasDictIn K cC=true)
   (lm:K.lookup df=some ⟨xc_NoWorst,xd_NoWorst,.cls xk_NoWorst,xs_NoWorst⟩)
   (lw:xk_NoWorst.mro=.ref df::.ref aH::bmV)
   (mn:PySem.W.typeIn K (.ref df)=some (.type "type"))
   (lH:PySem.W.findIn K (.ref df) "__getattribute__"=some (some (.builtin "BaseException.__getattribute__")))
   (mM:PySem.W.findIn K (.ref df) "__getattr__"=some none)
   (mw:PySem.W.findIn K (.ref df) "__class__"=some (some (.builtin "object.__class__")))
   (mR:PySem.W.hasDictIn K df=true)
   (o9:K.lookup dX=some ⟨xc_NoDeed,xd_NoDeed,.cls xk_NoDeed,xs_NoDeed⟩)
   (pe:xk_NoDeed.mro=.ref dX::.ref aH::bmV)
   (oh:PySem.W.typeIn K (.ref dX)=some (.type "type"))
   (nW:PySem.W.findIn K (.ref dX) "__getattribute__"=some (some (.builtin "BaseException.__getattribute__")))
   (nZ:PySem.W.findIn K (.ref dX) "__getattr__"=some none)
   (nY:PySem.W.findIn K (.ref dX) "__class__"=some (some (.builtin "object.__class__")))
   (oH:PySem.W.hasDictIn K dX=true)
   (mt:K.lookup dc=some ⟨xc_BadStep,xd_BadStep,.cls xk_BadStep,xs_BadStep⟩)
   (l8:xk_BadStep.mro=.ref dc::.ref aH::bmV)
   (lC:PySem.W.typeIn K (.ref dc)=some (.type "type"))
   (me:PySem.W.findIn K (.ref dc) "__getattribute__"=some (some (.builtin "BaseException.__getattribute__")))
   (lM:PySem.W.findIn K (.ref dc) "__getattr__"=some none)
   (lL:PySem.W.findIn K (.ref dc) "__class__"=some (some (.builtin "object.__class__")))
   (ll:PySem.W.hasDictIn K dc=true)
   (lS:K.lookup dh=some ⟨xc_BadText,xd_BadText,.cls xk_BadText,xs_BadText⟩)
   (mG:xk_BadText.mro=.ref dh::.ref aH::bmV)
   (l4:PySem.W.typeIn K (.ref dh)=some (.type "type"))
   (lQ:PySem.W.findIn K (.ref dh) "__getattribute__"=some (some (.builtin "BaseException.__getattribute__")))
   (lh:PySem.W.findIn K (.ref dh) "__getattr__"=some none)
   (nj:PySem.W.findIn K (.ref dh) "__class__"=some (some (.builtin "object.__class__")))
   (mN:PySem.W.hasDictIn K dh=true)
   (xgs:PySem.W.specialIn K (.builtin "object.__class__") "__get__"=some (some (.builtin "getset_descriptor.__get__")))
   (xtk:PySem.W.takesIn K (.builtin "object.__class__")=some true)
   (xnd:[aH,du,di,dN,bT,dg,db,cC,df,dX,dc,dh].Nodup)
   (hU:PySem.W.nsIn K mainGlobals "check_counts"=some (some (.ref cz)))
   (g3:K.lookup cz=some ⟨oc_check_counts,od_check_counts,.func (PySem.W.fnOf "check_counts" "check_counts" (aX aW) (aL aW) (af aW) .none rN rf qX rM jG rL),rH⟩)
   (g7:PySem.W.codeIn K jG "check_counts"=true)
   (hG:PySem.W.keepIn K (.ref cz)=true)
   (mW:PySem.W.nsIn K mainGlobals "is_place"=some (some (.ref eM)))
   (m3:K.lookup eM=some ⟨oc_is_place,od_is_place,.func (PySem.W.fnOf "is_place" "is_place" (aX cF) (aL cF) (af cF) .none vJ wc wp wF qb wR),ww⟩)
   (l7:PySem.W.codeIn K qb "is_place"=true)
   (mU:PySem.W.keepIn K (.ref eM)=true)
   (jk:PySem.W.nsIn K mainGlobals "check_ends"=some (some (.ref dv)))
   (jf:K.lookup dv=some ⟨oc_check_ends,od_check_ends,.func (PySem.W.fnOf "check_ends" "check_ends" (aX br) (aL br) (af br) .none tR tV tI tZ nC tN),tG⟩)
   (jh:PySem.W.codeIn K nC "check_ends"=true)
   (ju:PySem.W.keepIn K (.ref dv)=true)
   (jb:PySem.W.nsIn K mainGlobals "other_ends"=some (some (.ref dq)))
   (iU:K.lookup dq=some ⟨oc_other_ends,od_other_ends,.func (PySem.W.fnOf "other_ends" "other_ends" (aX bq) (aL bq) (af bq) .none tQ tU tJ tH nI tL),tW⟩)
   (jC:PySem.W.codeIn K nI "other_ends"=true)
   (iZ:PySem.W.keepIn K (.ref dq)=true)
   (hW:PySem.W.nsIn K mainGlobals "check_joined"=some (some (.ref cm)))
   (hV:K.lookup cm=some ⟨oc_check_joined,od_check_joined,.func (PySem.W.fnOf "check_joined" "check_joined" (aX aF) (aL aF) (af aF) .none qP qK rG rF jH rn),rY⟩)
   (ib:PySem.W.codeIn K jH "check_joined"=true)
   (ie:PySem.W.keepIn K (.ref cm)=true)
   (iq:PySem.W.nsIn K mainGlobals "check_tolls"=some (some (.ref cS)))
   (ix:K.lookup cS=some ⟨oc_check_tolls,od_check_tolls,.func (PySem.W.fnOf "check_tolls" "check_tolls" (aX a7) (aL a7) (af a7) .none sD si sq sC kN sB),sE⟩)
   (iy:PySem.W.codeIn K kN "check_tolls"=true)
   (iu:PySem.W.keepIn K (.ref cS)=true)
   (hZ:PySem.W.findIn K (.ref gB) "__init__"=some (some (.ref f_Web___init__)))
   (gZ:PySem.W.isFn K (.ref f_Web___init__)=true)
   (g9:K.lookup f_Web___init__=some ⟨oc_Web___init__,od_Web___init__,.func (PySem.W.fnOf "__init__" "Web.__init__" (aX aE) (aL aE) (af aE) .none rJ qJ qN qZ jL qY),rZ⟩)
   (hX:PySem.W.codeIn K jL "Web.__init__"=true)
   (ic:PySem.W.keepIn K (.ref f_Web___init__)=true)
   (lq:PySem.W.nsIn K mainGlobals "_law_good"=some (some (.ref eD)))
   (lU:K.lookup eD=some ⟨oc_law_good,od_law_good,.func (PySem.W.fnOf "_law_good" "_law_good" (aX aO) (aL aO) (af aO) .none wm vX wy wq pO wg),wQ⟩)
   (lW:PySem.W.codeIn K pO "_law_good"=true)
   (mq:PySem.W.keepIn K (.ref eD)=true)
   (mP:PySem.W.nsIn K mainGlobals "_law_take"=some (some (.ref aJ)))
   (m9:K.lookup aJ=some ⟨oc_law_take,od_law_take,.func (PySem.W.fnOf "_law_take" "_law_take" (aX bi) (aL bi) (af bi) .none wN wE wC wa qf wL),vM⟩)
   (k7:PySem.W.codeIn K qf "_law_take"=true)
   (nk:PySem.W.keepIn K (.ref aJ)=true)
   (j4:PySem.W.nsIn K mainGlobals "_law_costs"=some (some (.ref dP)))
   (jY:K.lookup dP=some ⟨oc_law_costs,od_law_costs,.func (PySem.W.fnOf "_law_costs" "_law_costs" (aX a4) (aL a4) (af a4) .none uT uH uR uF oG vm),ve⟩)
   (j1:PySem.W.codeIn K oG "_law_costs"=true)
   (jZ:PySem.W.keepIn K (.ref dP)=true)
   (mi:PySem.W.nsIn K mainGlobals "_law_ends"=some (some (.ref eI)))
   (lr:K.lookup eI=some ⟨oc_law_ends,od_law_ends,.func (PySem.W.fnOf "_law_ends" "_law_ends" (aX bw) (aL bw) (af bw) .none wv wH vI vG p8 wf),vU⟩)
   (lO:PySem.W.codeIn K p8 "_law_ends"=true)
   (lK:PySem.W.keepIn K (.ref eI)=true)
   (oJ:PySem.W.nsIn K mainGlobals "_law_put"=some (some (.ref fc)))
   (o0:K.lookup fc=some ⟨oc_law_put,od_law_put,.func (PySem.W.fnOf "_law_put" "_law_put" (aX bc) (aL bc) (af bc) .none xo xr xq yr qV yg),yd⟩)
   (oC:PySem.W.codeIn K qV "_law_put"=true)
   (oS:PySem.W.keepIn K (.ref fc)=true)
   (iz:PySem.W.nsIn K mainGlobals "_law_spoiled"=some (some (.ref cU)))
   (ip:K.lookup cU=some ⟨oc_law_spoiled,od_law_spoiled,.func (PySem.W.fnOf "_law_spoiled" "_law_spoiled" (aX aR) (aL aR) (af aR) .none se sA sM su kR sk),sr⟩)
   (iw:PySem.W.codeIn K kR "_law_spoiled"=true)
   (im:PySem.W.keepIn K (.ref cU)=true)
   (mf:PySem.W.nsIn K mainGlobals "_law_stir"=some (some (.ref cB)))
   (lf:K.lookup cB=some ⟨oc_law_stir,od_law_stir,.func (PySem.W.fnOf "_law_stir" "_law_stir" (aX bQ) (aL bQ) (af bQ) .none wn vY vx vw pZ wo),vD⟩)
   (mO:PySem.W.codeIn K pZ "_law_stir"=true)
   (kX:PySem.W.keepIn K (.ref cB)=true)
   (mx:PySem.W.nsIn K mainGlobals "_law_cell"=some (some (.ref eE)))
   (k6:K.lookup eE=some ⟨oc_law_cell,od_law_cell,.func (PySem.W.fnOf "_law_cell" "_law_cell" (aX bX) (aL bX) (af bX) .none wu wG wK wt pP wO),vO⟩)
   (lP:PySem.W.codeIn K pP "_law_cell"=true)
   (lD:PySem.W.keepIn K (.ref eE)=true)
   (jT:PySem.W.nsIn K mainGlobals "_law_cells"=some (some (.ref dY)))
   (kg:K.lookup dY=some ⟨oc_law_cells,od_law_cells,.func (PySem.W.fnOf "_law_cells" "_law_cells" (aX bf) (aL bf) (af bf) .none u9 vc uL um nX uG),uy⟩)
   (ku:PySem.W.codeIn K nX "_law_cells"=true)
   (kx:PySem.W.keepIn K (.ref dY)=true)
   (mI:PySem.W.nsIn K mainGlobals "_law_toll"=some (some (.ref eF)))
   (mX:K.lookup eF=some ⟨oc_law_toll,od_law_toll,.func (PySem.W.fnOf "_law_toll" "_law_toll" (aX b8) (aL b8) (af b8) .none vH vE vV vQ qd wA),wP⟩)
   (l9:PySem.W.codeIn K qd "_law_toll"=true)
   (lN:PySem.W.keepIn K (.ref eF)=true)
   (ki:PySem.W.nsIn K mainGlobals "_law_roads"=some (some (.ref dQ)))
   (j5:K.lookup dQ=some ⟨oc_law_roads,od_law_roads,.func (PySem.W.fnOf "_law_roads" "_law_roads" (aX av) (aL av) (af av) .none vg uA uZ uJ pf va),uh⟩)
   (j8:PySem.W.codeIn K pf "_law_roads"=true)
   (jV:PySem.W.keepIn K (.ref dQ)=true)
   (ow:PySem.W.nsIn K mainGlobals "_law_web"=some (some (.ref ft)))
   (nS:K.lookup ft=some ⟨oc_law_web,od_law_web,.func (PySem.W.fnOf "_law_web" "_law_web" (aX bu) (aL bu) (af bu) .none xH xW xO xz rO xC),xY⟩)
   (oV:PySem.W.codeIn K rO "_law_web"=true)
   (nU:PySem.W.keepIn K (.ref ft)=true)
   (j7:PySem.W.nsIn K mainGlobals "_law_marks"=some (some (.ref dW)))
   (jW:K.lookup dW=some ⟨oc_law_marks,od_law_marks,.func (PySem.W.fnOf "_law_marks" "_law_marks" (aX ax) (aL ax) (af ax) .none uC vo vn uX oA vp),vd⟩)
   (j2:PySem.W.codeIn K oA "_law_marks"=true)
   (jX:PySem.W.keepIn K (.ref dW)=true)
   (my:PySem.W.nsIn K mainGlobals "_law_word"=some (some (.ref eJ)))
   (ln:K.lookup eJ=some ⟨oc_law_word,od_law_word,.func (PySem.W.fnOf "_law_word" "_law_word" (aX aY) (aL aY) (af aY) .none wD vT wb vK pY vW),wM⟩)
   (lg:PySem.W.codeIn K pY "_law_word"=true)
   (lJ:PySem.W.keepIn K (.ref eJ)=true)
   (t5:PySem.W.nsIn K mainGlobals "law"=some (some (.ref yn)))
   (yp:K.lookup yn=some ⟨oc_law,od_law,.func (PySem.W.fnOf "law" "law" (aX bB) (aL bB) (af bB) .none yS yQ yU yA ul zq),DW⟩)
   (xw:PySem.W.codeIn K ul "law"=true)
   (xy:PySem.W.keepIn K (.ref yn)=true)
   (vj:PySem.W.plainGet K gB Str.empty=true)
   (uV:PySem.W.hasDictIn K gB=true)
   (uu:PySem.W.plainOver K gB=true)
   (uN:PySem.W.findIn K (.ref gB) "__setattr__"=some (some (.builtin "object.__setattr__")))
   (vi:PySem.W.makesIn K gB=true)
   (uw:PySem.W.keepIn K (.ref gB)=true)
   (u6:PySem.W.findIn K (.ref gB) "many"=some none)
   (uY:PySem.W.findIn K (.ref gB) "roads"=some none)
   (z_range:PySem.W.nsIn K mainGlobals "range"=some none)
   (z_len:PySem.W.nsIn K mainGlobals "len"=some none)
   (z_isinstance:PySem.W.nsIn K mainGlobals "isinstance"=some none)
   (z_all:PySem.W.nsIn K mainGlobals "all"=some none)
   (z_int:PySem.W.nsIn K mainGlobals "int"=some none)
   (z_bool:PySem.W.nsIn K mainGlobals "bool"=some none)
   (z_tuple:PySem.W.nsIn K mainGlobals "tuple"=some none)
   (z_list:PySem.W.nsIn K mainGlobals "list"=some none)
   (z_min:PySem.W.nsIn K mainGlobals "min"=some none)
   (z_max:PySem.W.nsIn K mainGlobals "max"=some none)
   (z_enumerate:PySem.W.nsIn K mainGlobals "enumerate"=some none)
   (z_str:PySem.W.nsIn K mainGlobals "str"=some none)
   (z_ValueError:PySem.W.nsIn K mainGlobals "ValueError"=some none)
   (v_MOST_PLACES:PySem.W.nsIn K mainGlobals "MOST_PLACES"=some (some (.int 24 t_MOST_PLACES)))
   (v_LEAST_TOLL:PySem.W.nsIn K mainGlobals "LEAST_TOLL"=some (some (.int 2 t_LEAST_TOLL)))
   (v_MOST_TOLL:PySem.W.nsIn K mainGlobals "MOST_TOLL"=some (some (.int 1000000 t_MOST_TOLL))) :
   ∃ fd:FuncData,(∀ (s:Shared) (v:Value),BindsTo s fd ⟨[v],[]⟩ [("script",v)])/\∀ base:Heap,K.In base->base.Ns mainGlobals mg->FnOk l.prog w K mg base (CXe l.prog w) 6 fa fd ["script"] (ua K):=by
 have e:=hfa.symm.trans (PySem.W.mg_of X G t5);cases e
 let T:Txt K mg:=⟨aH,PySem.W.mg_of X G je,du,PySem.W.mg_of X G nP,di,PySem.W.mg_of X G mj,dN,PySem.W.mg_of X G oO,bT,PySem.W.mg_of X G iW,dg,PySem.W.mg_of X G ml,db,PySem.W.mg_of X G lA,cC,PySem.W.mg_of X G kq,df,PySem.W.mg_of X G mV,dX,PySem.W.mg_of X G pb,dc,PySem.W.mg_of X G lY,dh,PySem.W.mg_of X G lV,gB,PySem.W.mg_of X G uO,Cu jw iX ja iV xgs xtk jy jv jg,d6 oY oM oQ ou xgs xtk on jD om,CC _ _ _ _ _ _ _ _ _ _ _ _ _ _ _ _ jD oj oz ol oI,d6 ma mY kZ mm xgs xtk lI ms lx,d6 pd oE oZ nV xgs xtk oN o7 oP,d6 jl jj iY jc xgs xtk jz jp jB,d6 mK mH md lz xgs xtk mh l0 mD,d6 lF li mB ni xgs xtk lj mT l5,d6 kb ka km j6 xgs xtk kd ky kc,d6 mn lH mM mw xgs xtk mR lm lw,d6 oh nW nZ nY xgs xtk oH o9 pe,d6 lC me lM lL xgs xtk ll mt l8,d6 l4 lQ lh nj xgs xtk mN lS mG,xnd,PySem.W.mg_none_of X G z_range,PySem.W.mg_none_of X G z_len,PySem.W.mg_none_of X G z_isinstance,PySem.W.mg_none_of X G z_all,PySem.W.mg_none_of X G z_int,PySem.W.mg_none_of X G z_bool,PySem.W.mg_none_of X G z_tuple,PySem.W.mg_none_of X G z_list,PySem.W.mg_none_of X G z_min,PySem.W.mg_none_of X G z_max,PySem.W.mg_none_of X G z_enumerate,PySem.W.mg_none_of X G z_str,PySem.W.mg_none_of X G z_ValueError,⟨_,PySem.W.mg_of X G v_MOST_PLACES⟩,⟨_,PySem.W.mg_of X G v_LEAST_TOLL⟩,⟨_,PySem.W.mg_of X G v_MOST_TOLL⟩,⟨vj,uV,uu,uN⟩,u6,uY⟩
 have F_check_counts:=bG (st:=aW) g3 g7 hG;have b_check_counts:=F_check_counts.binds (ps:=["many","roads"]) fun _ _ _ _ _ _ us hl=>by obtain ⟨u0,u1,rfl⟩:=us2 hl;rfl
 have dj:Df K mg "check_counts" aW ["many","roads"] cz _:=⟨F_check_counts,PySem.W.mg_of X G hU,b_check_counts⟩;have F_is_place:=bG (st:=cF) m3 l7 mU;have b_is_place:=F_is_place.binds (ps:=["many","number"]) fun _ _ _ _ _ _ us hl=>by obtain ⟨u0,u1,rfl⟩:=us2 hl;rfl
 have da:Df K mg "is_place" cF ["many","number"] eM _:=⟨F_is_place,PySem.W.mg_of X G mW,b_is_place⟩;have F_check_ends:=bG (st:=br) jf jh ju;have b_check_ends:=F_check_ends.binds (ps:=["many","road"]) fun _ _ _ _ _ _ us hl=>by obtain ⟨u0,u1,rfl⟩:=us2 hl;rfl
 have d9:Df K mg "check_ends" br ["many","road"] dv _:=⟨F_check_ends,PySem.W.mg_of X G jk,b_check_ends⟩;have F_other_ends:=bG (st:=bq) iU jC iZ;have b_other_ends:=F_other_ends.binds (ps:=["roads","place"]) fun _ _ _ _ _ _ us hl=>by obtain ⟨u0,u1,rfl⟩:=us2 hl;rfl
 have ee:Df K mg "other_ends" bq ["roads","place"] dq _:=⟨F_other_ends,PySem.W.mg_of X G jb,b_other_ends⟩;have F_check_joined:=bG (st:=aF) hV ib ie;have b_check_joined:=F_check_joined.binds (ps:=["many","roads"]) fun _ _ _ _ _ _ us hl=>by obtain ⟨u0,u1,rfl⟩:=us2 hl;rfl
 have dm:Df K mg "check_joined" aF ["many","roads"] cm _:=⟨F_check_joined,PySem.W.mg_of X G hW,b_check_joined⟩;have F_check_tolls:=bG (st:=a7) ix iy iu;have b_check_tolls:=F_check_tolls.binds (ps:=["road"]) fun _ _ _ _ _ _ us hl=>by obtain ⟨u0,rfl⟩:=us1 hl;rfl
 have dC:Df K mg "check_tolls" a7 ["road"] cS _:=⟨F_check_tolls,PySem.W.mg_of X G iq,b_check_tolls⟩;have F_Web___init__:=bG (st:=aE) g9 hX ic;have b_Web:=F_Web___init__.binds (ps:=["self","many","roads"]) fun _ _ _ _ _ _ us hl=>by obtain ⟨u0,u1,u2,rfl⟩:=us3 hl;rfl
 have F_law_good:=bG (st:=aO) lU lW mq;have b_law_good:=F_law_good.binds (ps:=["many","roads"]) fun _ _ _ _ _ _ us hl=>by obtain ⟨u0,u1,rfl⟩:=us2 hl;rfl
 have fv:Df K mg "_law_good" aO ["many","roads"] eD _:=⟨F_law_good,PySem.W.mg_of X G lq,b_law_good⟩;have F_law_take:=bG (st:=bi) m9 k7 nk;have b_law_take:=F_law_take.binds (ps:=["pot","n"]) fun _ _ _ _ _ _ us hl=>by obtain ⟨u0,u1,rfl⟩:=us2 hl;rfl
 have ak:Df K mg "_law_take" bi ["pot","n"] aJ _:=⟨F_law_take,PySem.W.mg_of X G mP,b_law_take⟩;have F_law_costs:=bG (st:=a4) jY j1 jZ;have b_law_costs:=F_law_costs.binds (ps:=["road","pot","bad"]) fun _ _ _ _ _ _ us hl=>by obtain ⟨u0,u1,u2,rfl⟩:=us3 hl;rfl
 have eW:Df K mg "_law_costs" a4 ["road","pot","bad"] dP _:=⟨F_law_costs,PySem.W.mg_of X G j4,b_law_costs⟩;have F_law_ends:=bG (st:=bw) lr lO lK;have b_law_ends:=F_law_ends.binds (ps:=["many","road","pot"]) fun _ _ _ _ _ _ us hl=>by obtain ⟨u0,u1,u2,rfl⟩:=us3 hl;rfl
 have fx:Df K mg "_law_ends" bw ["many","road","pot"] eI _:=⟨F_law_ends,PySem.W.mg_of X G mi,b_law_ends⟩;have F_law_put:=bG (st:=bc) o0 oC oS;have b_law_put:=F_law_put.binds (ps:=["many","roads","kind","pot"]) fun _ _ _ _ _ _ us hl=>by obtain ⟨u0,u1,u2,u3,rfl⟩:=us4 hl;rfl
 have f7:Df K mg "_law_put" bc ["many","roads","kind","pot"] fc _:=⟨F_law_put,PySem.W.mg_of X G oJ,b_law_put⟩;have F_law_spoiled:=bG (st:=aR) ip iw im;have b_law_spoiled:=F_law_spoiled.binds (ps:=["many","roads","pot"]) fun _ _ _ _ _ _ us hl=>by obtain ⟨u0,u1,u2,rfl⟩:=us3 hl;rfl
 have dB:Df K mg "_law_spoiled" aR ["many","roads","pot"] cU _:=⟨F_law_spoiled,PySem.W.mg_of X G iz,b_law_spoiled⟩;have F_law_stir:=bG (st:=bQ) lf mO kX;have b_law_stir:=F_law_stir.binds (ps:=["cell","k"]) fun _ _ _ _ _ _ us hl=>by obtain ⟨u0,u1,rfl⟩:=us2 hl;rfl
 have bW:Df K mg "_law_stir" bQ ["cell","k"] cB _:=⟨F_law_stir,PySem.W.mg_of X G mf,b_law_stir⟩;have F_law_cell:=bG (st:=bX) k6 lP lD;have b_law_cell:=F_law_cell.binds (ps:=["script","k"]) fun _ _ _ _ _ _ us hl=>by obtain ⟨u0,u1,rfl⟩:=us2 hl;rfl
 have fy:Df K mg "_law_cell" bX ["script","k"] eE _:=⟨F_law_cell,PySem.W.mg_of X G mx,b_law_cell⟩;have F_law_cells:=bG (st:=bf) kg ku kx;have b_law_cells:=F_law_cells.binds (ps:=["script","many"]) fun _ _ _ _ _ _ us hl=>by obtain ⟨u0,u1,rfl⟩:=us2 hl;rfl
 have eV:Df K mg "_law_cells" bf ["script","many"] dY _:=⟨F_law_cells,PySem.W.mg_of X G jT,b_law_cells⟩;have F_law_toll:=bG (st:=b8) mX l9 lN;have b_law_toll:=F_law_toll.binds (ps:=["pot"]) fun _ _ _ _ _ _ us hl=>by obtain ⟨u0,rfl⟩:=us1 hl;rfl
 have cY:Df K mg "_law_toll" b8 ["pot"] eF _:=⟨F_law_toll,PySem.W.mg_of X G mI,b_law_toll⟩;have F_law_roads:=bG (st:=av) j5 j8 jV;have b_law_roads:=F_law_roads.binds (ps:=["cells","first"]) fun _ _ _ _ _ _ us hl=>by obtain ⟨u0,u1,rfl⟩:=us2 hl;rfl
 have eR:Df K mg "_law_roads" av ["cells","first"] dQ _:=⟨F_law_roads,PySem.W.mg_of X G ki,b_law_roads⟩;have F_law_web:=bG (st:=bu) nS oV nU;have b_law_web:=F_law_web.binds (ps:=["script","sizes"]) fun _ _ _ _ _ _ us hl=>by obtain ⟨u0,u1,rfl⟩:=us2 hl;rfl
 have gb:Df K mg "_law_web" bu ["script","sizes"] ft _:=⟨F_law_web,PySem.W.mg_of X G ow,b_law_web⟩;have F_law_marks:=bG (st:=ax) jW j2 jX;have b_law_marks:=F_law_marks.binds (ps:=["e"]) fun _ _ _ _ _ _ us hl=>by obtain ⟨u0,rfl⟩:=us1 hl;rfl
 have eS:Df K mg "_law_marks" ax ["e"] dW _:=⟨F_law_marks,PySem.W.mg_of X G j7,b_law_marks⟩;have F_law_word:=bG (st:=aY) ln lg lJ;have b_law_word:=F_law_word.binds (ps:=["many","roads"]) fun _ _ _ _ _ _ us hl=>by obtain ⟨u0,u1,rfl⟩:=us2 hl;rfl
 have bP:Df K mg "_law_word" aY ["many","roads"] eJ _:=⟨F_law_word,PySem.W.mg_of X G my,b_law_word⟩;have F_law:=bG (st:=bB) yp xw xy;have b_law:=F_law.binds (ps:=["script"]) fun _ _ _ _ _ _ us hl=>by obtain ⟨u0,rfl⟩:=us1 hl;rfl
 have Ec:Df K mg "law" bB ["script"] fa _:=⟨F_law,PySem.W.mg_of X G t5,b_law⟩;refine ⟨PySem.W.fnOf "law" "law" (aX bB) (aL bB) (af bB) .none yS yQ yU yA ul zq,fun s v=>.of_eq rfl,fun base _ _=>?_⟩;have ya:Mk K T.Web f_Web___init__:=⟨vi,hZ,gZ,uw⟩;have G_check_counts:=rd (P:=l.prog) (w:=w) (base:=base) T bC dj;have G_is_place:=vN (P:=l.prog) (w:=w) (base:=base) T bC da;have G_check_ends:=tY (P:=l.prog) (w:=w) (base:=base) T bC d9 da G_is_place;have G_other_ends:=tM (P:=l.prog) (w:=w) (base:=base) T bC ee;have G_check_joined:=rA (P:=l.prog) (w:=w) (base:=base) T bC dm ee G_other_ends;have G_check_tolls:=sI (P:=l.prog) (w:=w) (base:=base) T bC dC;have G_Web_init:=qO (P:=l.prog) (w:=w) (base:=base) T bC F_Web___init__ dj G_check_counts d9 G_check_ends dm G_check_joined dC G_check_tolls;have G_law_good:=wx (P:=l.prog) (w:=w) (base:=base) T bC fv;have G_law_take:=vP (P:=l.prog) (w:=w) (base:=base) T bC ak;have G_law_costs:=uM (P:=l.prog) (w:=w) (base:=base) T bC eW ak G_law_take;have G_law_ends:=vZ (P:=l.prog) (w:=w) (base:=base) T bC fx ak G_law_take;have G_law_put:=xB (P:=l.prog) (w:=w) (base:=base) T bC f7 eW G_law_costs fx G_law_ends ak G_law_take;have G_law_spoiled:=sK (P:=l.prog) (w:=w) (base:=base) T bC dB f7 G_law_put ak G_law_take;have G_law_stir:=vA (P:=l.prog) (w:=w) (base:=base) T bC bW;have G_law_cell:=vF (P:=l.prog) (w:=w) (base:=base) T bC fy;have G_law_cells:=uI (P:=l.prog) (w:=w) (base:=base) T bC eV;have G_law_toll:=wz (P:=l.prog) (w:=w) (base:=base) T bC cY ak G_law_take;have G_law_roads:=uP (P:=l.prog) (w:=w) (base:=base) T bC eR bW G_law_stir ak G_law_take cY G_law_toll;have G_law_web:=yc (P:=l.prog) (w:=w) (base:=base) T bC gb fy G_law_cell eV G_law_cells eR G_law_roads;have G_law_marks:=uE (P:=l.prog) (w:=w) (base:=base) T bC eS;have G_law_word:=vR (P:=l.prog) (w:=w) (base:=base) T bC bP F_Web___init__ b_Web ya G_Web_init eS G_law_marks;have G_law:=De (P:=l.prog) (w:=w) (base:=base) T bC Ec fv G_law_good dB G_law_spoiled bW G_law_stir gb G_law_web bP G_law_word;exact G_law
theorem walk {l:PySem.W.OpenLaw} {q:Program} {loose:List Str} {XP:(Str->Option Value)->Heap->Prop} {YP:World->Heap->Prop} {d:DefRec} {K:Params->PySem.W.Frag} (hn:l.most=some 63) (hdf:d.params.defaults=[])
   (hY:∀ (w:World) (h:Heap),YP w h->(K w.params).In h)
   (F:∀ (w:World) (mg:Str->Option Value) (fa:Addr) (h:Heap),(K w.params).In h->h.Ns mainGlobals mg->mg d.name=some (.ref fa) ->
     ∃ fd:FuncData,(∀ (s:Shared) (u:Value),BindsTo s fd ⟨[u],[]⟩ [("script",u)])/\∀ base:Heap,(K w.params).In base->base.Ns mainGlobals mg->FnOk l.prog w (K w.params) mg base (CXe l.prog w) 6 fa fd ["script"] (ua (K w.params))) :
   PySem.W.WalkO q loose XP YP l.row.toRowW d [] (fun f vs=>PySem.call f vs) :=
 L2.walk_of (n:=63) (k:=6) (x:="script") (CX:=fun w=>(CXe l.prog w)) (sp:=fun w=>ua (K w.params)) hn (by decide) hdf ⟨rfl,by decide,by decide⟩ hY F (fun _ _ a ns hl _ hS=>⟨a,ns,rfl,hS,hl,fun _=>rfl⟩) fun _ _ _ _ _ z=>bC _ _ _ _ _ z
end Pk
open PySem PySem.W PyProof.Rows
set_option maxRecDepth 100000 in
set_option maxHeartbeats 0 in
theorem PySem.Challenge.cw_pebbletoll_k03_webs_refused_holds : PySem.Challenge.rw_pebbletoll_k03_webs_refused.Holds := by
 w_on;o_law
 refine PySem.W.holds_open (q:=Hd.qq) (loose:=[]) (Xt:=(fun s=>PySem.W.xlAt Hd.qq [] s && PySem.W.recOk (PySem.W.RowW.records (PySem.W.OpenRow.toRowW (PySem.Challenge.rw_pebbletoll_k03_webs_refused).row)) s)) (XP:=PySem.W.XL Hd.qq []) (Yf:=PySem.W.Hook.obs (PySem.W.kHook Hd.KK Hd.asK Hd.asK_eq)) (Ya:=PySem.W.Hook.val (PySem.W.kHook Hd.KK Hd.asK Hd.asK_eq)) (YP:=PySem.W.Hook.says (PySem.W.kHook Hd.KK Hd.asK Hd.asK_eq)) (N:=7190) Hd.left (PySem.W.Hook.of (PySem.W.kHook Hd.KK Hd.asK Hd.asK_eq)) (PySem.W.Hook.keeps (PySem.W.kHook Hd.KK Hd.asK Hd.asK_eq)) (fun s e=>PySem.W.xl_of s (Bool.and_eq_true_iff.mp e).1) PySem.W.XL.keeps (by rfl) (by rfl) (by rfl) (fun s e=>PySem.W.recFacts_of (Bool.and_eq_true_iff.mp e).2) (by rfl) (by assumption) (by decide +kernel) ⟨rfl,rfl,rfl,rfl,rfl,by decide +kernel⟩ ?hw ?hc
 (case hw=>w_witness2)
 k_fill
 refine Pk.walk (l:=PySem.Challenge.rw_pebbletoll_k03_webs_refused) rfl rfl (fun w h Y=>PySem.W.kIn_of Y) ?F
 case F =>
   intro w mg fa h KX G hmg;refine' Pk.all_mk KX G hmg ?je ?nP ?mj ?oO ?iW ?ml ?lA ?kq ?mV ?pb ?lY ?lV ?uO ?jv ?jg ?jw ?iX ?ja ?iV ?jy ?jD ?om ?oY ?oM ?oQ ?ou ?on ?oj ?oz ?ol ?oI ?ms ?lx ?ma ?mY ?kZ ?mm ?lI ?o7 ?oP ?pd ?oE ?oZ ?nV ?oN ?jp ?jB ?jl ?jj ?iY ?jc ?jz ?l0 ?mD ?mK ?mH ?md ?lz ?mh ?mT ?l5 ?lF ?li ?mB ?ni ?lj ?ky ?kc ?kb ?ka ?km ?j6 ?kd ?lm ?lw ?mn ?lH ?mM ?mw ?mR ?o9 ?pe ?oh ?nW ?nZ ?nY ?oH ?mt ?l8 ?lC ?me ?lM ?lL ?ll ?lS ?mG ?l4 ?lQ ?lh ?nj ?mN ?xgs ?xtk ?xnd ?hU ?g3 ?g7 ?hG ?mW ?m3 ?l7 ?mU ?jk ?jf ?jh ?ju ?jb ?iU ?jC ?iZ ?hW ?hV ?ib ?ie ?iq ?ix ?iy ?iu ?hZ ?gZ ?g9 ?hX ?ic ?lq ?lU ?lW ?mq ?mP ?m9 ?k7 ?nk ?j4 ?jY ?j1 ?jZ ?mi ?lr ?lO ?lK ?oJ ?o0 ?oC ?oS ?iz ?ip ?iw ?im ?mf ?lf ?mO ?kX ?mx ?k6 ?lP ?lD ?jT ?kg ?ku ?kx ?mI ?mX ?l9 ?lN ?ki ?j5 ?j8 ?jV ?ow ?nS ?oV ?nU ?j7 ?jW ?j2 ?jX ?my ?ln ?lg ?lJ ?t5 ?yp ?xw ?xy ?vj ?uV ?uu ?uN ?vi ?uw ?u6 ?uY ?z_range ?z_len ?z_isinstance ?z_all ?z_int ?z_bool ?z_tuple ?z_list ?z_min ?z_max ?z_enumerate ?z_str ?z_ValueError ?v_MOST_PLACES ?v_LEAST_TOLL ?v_MOST_TOLL
   (case je=>k_is)
   (case nP=>k_is)
   (case mj=>k_is)
   (case oO=>k_is)
   (case iW=>k_is)
   (case ml=>k_is)
   (case lA=>k_is)
   (case kq=>k_is)
   (case mV=>k_is)
   (case pb=>k_is)
   (case lY=>k_is)
   (case lV=>k_is)
   (case uO=>k_is)
   (case jv=>k_is)
   (case jg=>rfl)
   (case jw=>k_is)
   (case iX=>k_is)
   (case ja=>k_is)
   (case iV=>k_is)
   (case jy=>k_is)
   (case jD=>k_is)
   (case om=>rfl)
   (case oY=>k_is)
   (case oM=>k_is)
   (case oQ=>k_is)
   (case ou=>k_is)
   (case on=>k_is)
   (case oj=>rfl)
   (case oz=>kernel_rfl)
   (case ol=>k_is)
   (case oI=>kernel_rfl)
   (case ms=>k_is)
   (case lx=>rfl)
   (case ma=>k_is)
   (case mY=>k_is)
   (case kZ=>k_is)
   (case mm=>k_is)
   (case lI=>k_is)
   (case o7=>k_is)
   (case oP=>rfl)
   (case pd=>k_is)
   (case oE=>k_is)
   (case oZ=>k_is)
   (case nV=>k_is)
   (case oN=>k_is)
   (case jp=>k_is)
   (case jB=>rfl)
   (case jl=>k_is)
   (case jj=>k_is)
   (case iY=>k_is)
   (case jc=>k_is)
   (case jz=>k_is)
   (case l0=>k_is)
   (case mD=>rfl)
   (case mK=>k_is)
   (case mH=>k_is)
   (case md=>k_is)
   (case lz=>k_is)
   (case mh=>k_is)
   (case mT=>k_is)
   (case l5=>rfl)
   (case lF=>k_is)
   (case li=>k_is)
   (case mB=>k_is)
   (case ni=>k_is)
   (case lj=>k_is)
   (case ky=>k_is)
   (case kc=>rfl)
   (case kb=>k_is)
   (case ka=>k_is)
   (case km=>k_is)
   (case j6=>k_is)
   (case kd=>k_is)
   (case lm=>k_is)
   (case lw=>rfl)
   (case mn=>k_is)
   (case lH=>k_is)
   (case mM=>k_is)
   (case mw=>k_is)
   (case mR=>k_is)
   (case o9=>k_is)
   (case pe=>rfl)
   (case oh=>k_is)
   (case nW=>k_is)
   (case nZ=>k_is)
   (case nY=>k_is)
   (case oH=>k_is)
   (case mt=>k_is)
   (case l8=>rfl)
   (case lC=>k_is)
   (case me=>k_is)
   (case lM=>k_is)
   (case lL=>k_is)
   (case ll=>k_is)
   (case lS=>k_is)
   (case mG=>rfl)
   (case l4=>k_is)
   (case lQ=>k_is)
   (case lh=>k_is)
   (case nj=>k_is)
   (case mN=>k_is)
   (case xgs=>k_is)
   (case xtk=>k_is)
   (case xnd=>decide)
   (case hU=>k_is)
   (case g3=>k_is)
   (case g7=>k_is)
   (case hG=>k_is)
   (case mW=>k_is)
   (case m3=>k_is)
   (case l7=>k_is)
   (case mU=>k_is)
   (case jk=>k_is)
   (case jf=>k_is)
   (case jh=>k_is)
   (case ju=>k_is)
   (case jb=>k_is)
   (case iU=>k_is)
   (case jC=>k_is)
   (case iZ=>k_is)
   (case hW=>k_is)
   (case hV=>k_is)
   (case ib=>k_is)
   (case ie=>k_is)
   (case iq=>k_is)
   (case ix=>k_is)
   (case iy=>k_is)
   (case iu=>k_is)
   (case hZ=>k_is)
   (case gZ=>k_is)
   (case g9=>k_is)
   (case hX=>k_is)
   (case ic=>k_is)
   (case lq=>k_is)
   (case lU=>k_is)
   (case lW=>k_is)
   (case mq=>k_is)
   (case mP=>k_is)
   (case m9=>k_is)
   (case k7=>k_is)
   (case nk=>k_is)
   (case j4=>k_is)
   (case jY=>k_is)
   (case j1=>k_is)
   (case jZ=>k_is)
   (case mi=>k_is)
   (case lr=>k_is)
   (case lO=>k_is)
   (case lK=>k_is)
   (case oJ=>k_is)
   (case o0=>k_is)
   (case oC=>k_is)
   (case oS=>k_is)
   (case iz=>k_is)
   (case ip=>k_is)
   (case iw=>k_is)
   (case im=>k_is)
   (case mf=>k_is)
   (case lf=>k_is)
   (case mO=>k_is)
   (case kX=>k_is)
   (case mx=>k_is)
   (case k6=>k_is)
   (case lP=>k_is)
   (case lD=>k_is)
   (case jT=>k_is)
   (case kg=>k_is)
   (case ku=>k_is)
   (case kx=>k_is)
   (case mI=>k_is)
   (case mX=>k_is)
   (case l9=>k_is)
   (case lN=>k_is)
   (case ki=>k_is)
   (case j5=>k_is)
   (case j8=>k_is)
   (case jV=>k_is)
   (case ow=>k_is)
   (case nS=>k_is)
   (case oV=>k_is)
   (case nU=>k_is)
   (case j7=>k_is)
   (case jW=>k_is)
   (case j2=>k_is)
   (case jX=>k_is)
   (case my=>k_is)
   (case ln=>k_is)
   (case lg=>k_is)
   (case lJ=>k_is)
   (case t5=>k_is)
   (case yp=>k_is)
   (case xw=>k_is)
   (case xy=>k_is)
   (case vj=>k_is)
   (case uV=>k_is)
   (case uu=>k_is)
   (case uN=>k_is)
   (case vi=>k_is)
   (case uw=>k_is)
   (case u6=>k_is)
   (case uY=>k_is)
   (case z_range=>k_is)
   (case z_len=>k_is)
   (case z_isinstance=>k_is)
   (case z_all=>k_is)
   (case z_int=>k_is)
   (case z_bool=>k_is)
   (case z_tuple=>k_is)
   (case z_list=>k_is)
   (case z_min=>k_is)
   (case z_max=>k_is)
   (case z_enumerate=>k_is)
   (case z_str=>k_is)
   (case z_ValueError=>k_is)
   (case v_MOST_PLACES=>k_is)
   (case v_LEAST_TOLL=>k_is)
   (case v_MOST_TOLL=>k_is)
#print axioms PySem.Challenge.cw_pebbletoll_k03_webs_refused_holds