/-
  Contract: GoodWindow of the program (implWG stands in Chg).
-/
import Derived.Test.YtpjpmlopmknllaaChg
